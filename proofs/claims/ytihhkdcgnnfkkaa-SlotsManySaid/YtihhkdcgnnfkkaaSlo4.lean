
/- Values by keys: a new key is put; a key is dropped; all are cleared; how many; whether there is room; new ones; the texts walked. -/
import Derived.Test.YtihhkdcgnnfkkaaSlo3
namespace Go.Proofs.Ytihhkdcgnnfkkaa
set_option maxRecDepth 20000
open Go.RowKit
section
variable {w : World} {S lim : Nat} {l : Tr} {O : Nat → Prop}
set_option maxHeartbeats 2000000 in
theorem s_put_new (h : SX w S lim l O) (k v : Nat) (hk : ∀ x ∈ l, x.1 ≠ k) (hf : l.length < lim) (hk64 : k < 18446744073709551616) (hsm : l.length < 1000000) :
    Calls Try.prog 13 #[.pointer (some ⟨S, 0, none⟩), .int .u64 (k : Int), .int .u64 (v : Int)] w fun e w' => e = .returned (.tuple #[.bool true, .int .i64 0]) ∧ SR w O S lim ((k, v) :: l) w' := by
  obtain ⟨P, M, T, Qt, seed, n, pr, cn, cf, An, Af, ns, fs, tr, hb, hp, rfl⟩ := h
  have hkt := Sv.SI.none hp hk
  have HP := Lib.hid (s_place w S P M T Qt lim seed n pr cn cf An Af ns fs tr hb k 0 false (.inr ⟨rfl, rfl, hkt⟩))
  have hlen : tr.length < lim := by
    have := hp.length_eq
    rw [Sv.vl_len] at this
    omega
  have hes : (Sv.es tr).length < 1000000 := by
    have := hp.length_eq
    rw [Sv.vl_len] at this
    rw [Sv.es_len]
    omega
  have HES := Lib.hid hes
  have HKT := Lib.hid hkt
  have HLN := Lib.hid hlen
  have HE := Lib.hid hp
  have HSI := Lib.hid hb.si
  clear hb hk hp hf hkt hlen hes hsm
  go_enter Try.func13, Try.ntmps13
  go_wp2_with (first
    | (go_at_call 23; (with_reducible refine HP.out.mono ?_); rintro e w1 ⟨rfl, Qt', n', pr', h1, b1, q1⟩
       have c1 : w1.cell? ⟨S, 1, none⟩ = some (.pointer (some ⟨P, 0, none⟩)) := cell_of_row w1 S 1 _ _ (0, 0) h1.row
       obtain ⟨i, ns', fs', hsi, hvl, hA⟩ := s_alloc h1.po HSI.out k v HKT.out HLN.out
       have HA := Lib.hid hA
       have HNS := Lib.hid hsi
       have HVL := Lib.hid hvl
       have H1 := Lib.hid h1
       have B1 := Lib.hid b1
       have Q1 := Lib.hid q1
       clear h1 b1 q1 hsi hvl hA)
    | (go_at_call 31; (with_reducible refine HA.out.mono ?_); rintro e w2 ⟨rfl, h2⟩
       obtain ⟨An', cn', Af', cf', h3, b2, hi⟩ := H1.out.pools h2
       have c2 : w2.cell? ⟨S, 2, none⟩ = some (.pointer (some ⟨T, 0, none⟩)) := cell_of_row w2 S 2 _ _ (0, 0) h3.1
       have hil : i ≤ 2097152 := by
         obtain ⟨u, hu⟩ := HNS.out.live (k, i) (by simp)
         have h5 := (List.getElem?_eq_some_iff.1 hu).1
         have h6 := h3.2.1.ns_le
         simp at h5
         omega
       have wi : IntKind.u64.wrap (i : Int) = (i : Int) := by simp [IntKind.wrap, IntKind.signed, IntKind.bits]; omega
       have HIL := Lib.hid hil
       have H3 := Lib.hid h3
       have B2 := Lib.hid b2
       have HI := Lib.hid hi
       have C2 := Lib.hid (show w2.drew.cell? ⟨S, 2, none⟩ = some (.pointer (some ⟨T, 0, none⟩)) from c2)
       clear h2 h3 b2 hi hil c2))
  go_region_held3 (fun Y => Y.cell? ⟨S, 2, none⟩ = some (.pointer (some ⟨T, 0, none⟩))) (first | (with_reducible exact C2.out) | (with_reducible exact C3.out) | (with_reducible exact C4.out) | go_keep) (first
    | (go_at_call 25; (with_reducible refine (s_name _ k).mono ?_); rintro e w3 ⟨rfl, hb1⟩
       have hbc : K.Chg w2 w3 (fun _ => False) := ⟨hb1.os, hb1.tape, hb1.output, hb1.size, fun g hg _ => hb1.block g hg⟩
       have hrow := (hbc.block S (row_lt H3.out.1) (fun h => h)).trans H3.out.1
       have hpo := H3.out.2.1.but (ButS.of_chg hbc) (fun _ _ h => h)
       have htab := H3.out.2.2.but (ButS.of_chg hbc) (fun _ _ h => h)
       have c3 : w3.cell? ⟨S, 2, none⟩ = some (.pointer (some ⟨T, 0, none⟩)) := cell_of_row w3 S 2 _ _ (0, 0) hrow
       have C3 := Lib.hid c3
       have HG := Lib.hid (tab_put0 w3 T Qt' M seed n' pr' tr htab k i hk64 (by have := HIL.out; omega) HKT.out HES.out)
       have HR3 := Lib.hid hrow
       have HP3 := Lib.hid hpo
       have B3 := Lib.hid hbc
       clear hb1 hbc hrow hpo htab c3)
    | (go_at_call 32; (with_reducible refine HG.out.mono ?_); rintro e w4 ⟨rfl, ht⟩
       obtain ⟨Qt2, n2, pr2, ht4, hbs, hq4, _⟩ := ht
       have hrs : ¬ Hs.TF T Qt' M S := H1.out.s_tf
       have c4 : w4.cell? ⟨S, 2, none⟩ = some (.pointer (some ⟨T, 0, none⟩)) := cell_of_row w4 S 2 _ _ (0, 0) ((hbs.block S (row_lt HR3.out) hrs).trans HR3.out)
       have C4 := Lib.hid c4
       have HT4 := Lib.hid ht4
       have HB4 := Lib.hid hbs
       have HQ4 := Lib.hid hq4
       clear ht4 hbs hq4 c4 hrs))
  all_goals
    go_wp2
    go_ret2
    have hs1 := B1.out.size
    have hs2 : w1.heap.size ≤ w2.heap.size := B2.out.size
    have hs3 : w2.heap.size ≤ w3.heap.size := B3.out.size
    have hi' : ∀ j, Pp.PB P An' Af' j → Pp.PB P An Af j ∨ w.heap.size ≤ j := fun j hj => (HI.out j hj).imp id (fun h => Nat.le_trans hs1 h)
    have ht' : ∀ j, Hs.TF T Qt2 M j → Hs.TF T Qt M j ∨ w.heap.size ≤ j := fun j hj => by
      rcases tf_more (w := w3) HQ4.out hj with h | h
      · exact tf_more Q1.out h
      · exact .inr (by omega)
    have hpt : ∀ j, Pp.PB P An' Af' j → ¬ Hs.TF T Qt' M j := fun j h1 h2 => by
      obtain ⟨c, T1, hr, ht⟩ := pb_rowsS H3.out.2.1 h1
      obtain ⟨c', T', hr', ht'⟩ := tf_rowsS H3.out.2.2 h2
      rcases ht with rfl | rfl | rfl <;> rcases ht' with rfl | rfl | rfl <;> exact row_ne hr hr' (by decide) rfl
    have hrow4 := (HB4.out.block S (row_lt HR3.out) H1.out.s_tf).trans HR3.out
    have hpo4 := HP3.out.but HB4.out (fun j hj => hpt j hj)
    have b12 : K.Chg w w2 (SK S P M T Qt An Af) := (B1.out.mono (O' := SK S P M T Qt An Af) (fun j hj => .inr (.inr hj))).trans B2.out (fun j hj => .inl (.inr (.inl hj)))
    have b13 : K.Chg w w3 (SK S P M T Qt An Af) := b12.trans B3.out (fun j hj => hj.elim)
    have b14 : K.Chg w w4 (SK S P M T Qt An Af) := b13.trans HB4.out.chg (fun j hj => (tf_more Q1.out hj).imp (fun h => .inr (.inr h)) id)
    have hfin : SB w4 S P M T Qt2 lim seed n2 pr2 cn' cf' An' Af' ns' fs' ((k, i) :: tr) := ⟨hrow4, hpo4, HT4.out.any 0, HNS.out⟩
    refine ⟨rfl, _, ⟨P, M, T, Qt2, seed, n2, pr2, cn', cf', An', Af', ns', fs', (k, i) :: tr, hfin, by rw [HVL.out]; exact List.Perm.cons _ HE.out, rfl⟩, b14, fun j hj => sk_more ht' hi' hj⟩
set_option maxHeartbeats 2000000 in
theorem s_drop_yes (h : SX w S lim l O) (k v0 : Nat) (r : Tr) (hr : l.Perm ((k, v0) :: r)) (hsm : l.length < 1000000) :
    Calls Try.prog 9 #[.pointer (some ⟨S, 0, none⟩), .int .u64 (k : Int)] w fun e w' => e = .returned (.bool true) ∧ SR w O S lim r w' := by
  obtain ⟨P, M, T, Qt, seed, n, pr, cn, cf, An, Af, ns, fs, tr, hb, hp, rfl⟩ := h
  obtain ⟨p, tr', ht, hpv, hrp⟩ := hb.si.find hp hr
  have HP := Lib.hid (s_place w S P M T Qt lim seed n pr cn cf An Af ns fs tr hb k p true (.inl ⟨rfl, ht.symm.subset (by simp)⟩))
  obtain ⟨hlt, hpe⟩ := List.getElem?_eq_some_iff.1 hpv
  have hfree := (hb.si.perm ht).free
  have hfl := hb.si.le ht
  have hle : (Sv.es tr').length < 1000000 := by
    have h1 := hrp.length_eq
    have h2 := hr.length_eq
    rw [Sv.vl_len] at h1
    rw [Sv.es_len]
    simp at h2
    omega
  have HN := Lib.hid hfree
  have HE := Lib.hid hrp
  have HQ := Lib.hid (show ∃ h : p < ns.length, ns[p].2 = true from ⟨hlt, by rw [hpe]⟩)
  have HFL := Lib.hid hfl
  have HLE := Lib.hid hle
  have HPE := Lib.hid (Sv.es_perm ht)
  clear hb hpv ht hp hr hfree hrp hlt hpe hfl hle hsm
  go_enter Try.func9, Try.ntmps9
  go_wp2_with (first
    | (go_at_call 23; (with_reducible refine HP.out.mono ?_); rintro e w1 ⟨rfl, Qt', n', pr', h1, b1, q1⟩
       have C2 := Lib.hid (show w1.drew.cell? ⟨S, 2, none⟩ = some (.pointer (some ⟨T, 0, none⟩)) from cell_of_row w1 S 2 _ _ (0, 0) h1.row)
       have H1 := Lib.hid h1
       have B1 := Lib.hid b1
       have Q1 := Lib.hid q1
       clear h1 b1 q1))
  go_region_held3 (fun Y => Y.cell? ⟨S, 2, none⟩ = some (.pointer (some ⟨T, 0, none⟩))) (first | (with_reducible exact C2.out) | (with_reducible exact C3.out) | (with_reducible exact C4.out) | go_keep) (first
    | (go_at_call 25; (with_reducible refine (s_name _ k).mono ?_); rintro e w3 ⟨rfl, hb1⟩
       have hbc : K.Chg w1 w3 (fun _ => False) := ⟨hb1.os, hb1.tape, hb1.output, hb1.size, fun g hg _ => hb1.block g hg⟩
       have h3 := H1.out.chg hbc (fun _ _ h => h)
       have C3 := Lib.hid (show w3.cell? ⟨S, 2, none⟩ = some (.pointer (some ⟨T, 0, none⟩)) from cell_of_row w3 S 2 _ _ (0, 0) h3.row)
       have HG := Lib.hid (tab_drop0 w3 T Qt' M seed n' pr' tr tr' h3.tab k p HPE.out HLE.out)
       have H3 := Lib.hid h3
       have B3 := Lib.hid hbc
       clear hb1 hbc h3)
    | (go_at_call 24; (with_reducible refine HG.out.mono ?_); rintro e w4 ⟨rfl, ht⟩
       obtain ⟨Qt2, n2, pr2, hx4, b4, hq4⟩ := H3.out.tabs ht
       have C4 := Lib.hid (show w4.cell? ⟨S, 2, none⟩ = some (.pointer (some ⟨T, 0, none⟩)) from cell_of_row w4 S 2 _ _ (0, 0) hx4.1)
       have X4 := Lib.hid hx4
       have B4 := Lib.hid b4
       have Q4 := Lib.hid hq4
       clear ht hx4 b4 hq4))
  all_goals
    have hc1 := cell_of_row w4 S 1 _ _ (0, 0) X4.out.1
    have HA := Lib.hid (Pp.p_free_yes w4 0 P M lim cn cf An Af ns fs X4.out.2.1 p HQ.out.1 HQ.out.2 HFL.out)
    go_wp2_with ((go_at_call 26; (with_reducible refine HA.out.mono ?_); rintro e w5 ⟨rfl, h5⟩; have H5 := Lib.hid h5; clear h5))
    go_ret
    obtain ⟨An', cn', Af', cf', hpo, hbs, hi⟩ := H5.out
    have hs1 := B1.out.size
    have hs2 : w1.heap.size ≤ w3.heap.size := B3.out.size
    have hs3 : w3.heap.size ≤ w4.heap.size := B4.out.size
    have hi' : ∀ j, Pp.PB P An' Af' j → Pp.PB P An Af j ∨ w.heap.size ≤ j := fun j hj => (hi j hj).imp id (fun h => by have : w4.heap.size ≤ j := h; omega)
    have ht' : ∀ j, Hs.TF T Qt2 M j → Hs.TF T Qt M j ∨ w.heap.size ≤ j := fun j hj => by
      rcases tf_more (w := w3) Q4.out hj with h | h
      · exact tf_more Q1.out h
      · exact .inr (by omega)
    have hps : ¬ Pp.PB P An Af S := H3.out.s_pb
    have hpt : ∀ j, Hs.TF T Qt2 M j → ¬ Pp.PB P An Af j := fun j h2 h1 => by
      obtain ⟨c, T1, hr, ht⟩ := pb_rowsS X4.out.2.1 h1
      obtain ⟨c', T', hr', ht'⟩ := tf_rowsS X4.out.2.2 h2
      rcases ht with rfl | rfl | rfl <;> rcases ht' with rfl | rfl | rfl <;> exact row_ne hr hr' (by decide) rfl
    have hrow5 := (hbs.block S (row_lt X4.out.1) hps).trans X4.out.1
    have htab5 := X4.out.2.2.but hbs (fun j hj => hpt j hj)
    have b13 : K.Chg w w3 (SK S P M T Qt An Af) := (B1.out.mono (O' := SK S P M T Qt An Af) (fun j hj => .inr (.inr hj))).trans B3.out (fun j hj => hj.elim)
    have b14 : K.Chg w w4 (SK S P M T Qt An Af) := b13.trans B4.out (fun j hj => (tf_more Q1.out hj).imp (fun h => .inr (.inr h)) id)
    have b15 : K.Chg w w5 (SK S P M T Qt An Af) := b14.trans hbs.chg (fun j hj => .inl (.inr (.inl hj)))
    exact ⟨rfl, _, ⟨P, M, T, Qt2, seed, n2, pr2, cn', cf', An', Af', _, _, tr', ⟨hrow5, hpo, htab5, HN.out.1⟩, by rw [HN.out.2]; exact HE.out, rfl⟩, b15, fun j hj => sk_more ht' hi' hj⟩
set_option maxHeartbeats 1000000 in
theorem s_drop_no (h : SX w S lim l O) (k : Nat) (hk : ∀ x ∈ l, x.1 ≠ k) :
    Calls Try.prog 9 #[.pointer (some ⟨S, 0, none⟩), .int .u64 (k : Int)] w fun e w' => e = .returned (.bool false) ∧ SR w O S lim l w' := by
  obtain ⟨P, M, T, Qt, seed, n, pr, cn, cf, An, Af, ns, fs, tr, hb, hp, rfl⟩ := h
  have HP := Lib.hid (s_place w S P M T Qt lim seed n pr cn cf An Af ns fs tr hb k 0 false (.inr ⟨rfl, rfl, Sv.SI.none hp hk⟩))
  have HE := Lib.hid hp
  clear hb hk hp
  go_enter Try.func9, Try.ntmps9
  go_wp2_with (first
    | (go_at_call 23; (with_reducible refine HP.out.mono ?_); rintro e w1 ⟨rfl, Qt', n', pr', h1, b1, q1⟩
       have H1 := Lib.hid h1
       have B1 := Lib.hid b1
       have Q1 := Lib.hid q1
       clear h1 b1 q1))
  go_ret
  exact ⟨rfl, _, ⟨P, M, T, Qt', seed, n', pr', cn, cf, An, Af, ns, fs, tr, H1.out, HE.out, rfl⟩, B1.out.mono (fun j hj => .inr (.inr hj)), fun j hj => sk_more (fun j hj => tf_more Q1.out hj) (fun j hj => .inl hj) hj⟩
set_option maxHeartbeats 1000000 in
theorem s_clear (h : SX w S lim l O) :
    Calls Try.prog 12 #[.pointer (some ⟨S, 0, none⟩)] w fun e w' => e = .returned (.tuple #[]) ∧ SR w O S lim [] w' := by
  obtain ⟨P, M, T, Qt, seed, n, pr, cn, cf, An, Af, ns, fs, tr, hb, hp, rfl⟩ := h
  have c1 : w.cell? ⟨S, 1, none⟩ = some (.pointer (some ⟨P, 0, none⟩)) := cell_of_row w S 1 _ _ (0, 0) hb.row
  have HP := Lib.hid (Pp.p_clear hb.po)
  have H0 := Lib.hid hb
  clear hb hp
  go_enter Try.func12, Try.ntmps12
  go_wp2_with (first
    | (go_at_call 28; (with_reducible refine HP.out.mono ?_); rintro e w1 ⟨rfl, h1⟩
       obtain ⟨An', cn', Af', cf', hx1, b1, hi⟩ := H0.out.pools h1
       have c2 : w1.cell? ⟨S, 2, none⟩ = some (.pointer (some ⟨T, 0, none⟩)) := cell_of_row w1 S 2 _ _ (0, 0) hx1.1
       have HA := Lib.hid (Hs.tab_clear w1 T Qt M seed n pr 0 (Sv.es tr) hx1.2.2)
       have X1 := Lib.hid hx1
       have B1 := Lib.hid b1
       have HI := Lib.hid hi
       clear h1 hx1 b1 hi)
    | (go_at_call 29; (with_reducible refine HA.out.mono ?_); rintro e w2 ⟨rfl, Q', ht, hb2, hq⟩
       have HT := Lib.hid ht
       have B2 := Lib.hid hb2
       have HQ := Lib.hid hq
       clear ht hb2 hq))
  go_end0
  have hs := B1.out.size
  have hst : S ≠ T := fun e => H0.out.s_tf (.inl e)
  have hpt : ∀ j, Pp.PB P An' Af' j → j ≠ T := fun j h1 e => by
    obtain ⟨c, T1, hr, ht⟩ := pb_rowsS X1.out.2.1 h1
    obtain ⟨c', T', hr', ht'⟩ := tf_rowsS X1.out.2.2 (.inl e)
    rcases ht with rfl | rfl | rfl <;> rcases ht' with rfl | rfl | rfl <;> exact row_ne hr hr' (by decide) rfl
  have hrow := (B2.out.block S (row_lt X1.out.1) hst).trans X1.out.1
  have hpo := X1.out.2.1.but B2.out (fun j hj => hpt j hj)
  have hq : Q' = Qt ∨ w.heap.size ≤ Q' := .inr (Nat.le_trans hs HQ.out)
  refine ⟨rfl, _, ⟨P, M, T, Q', seed, 8, 0, cn', cf', An', Af', [], [], [], ⟨hrow, hpo, HT.out, Sv.SI.nil⟩, List.Perm.refl _, rfl⟩, ?_, fun j hj => sk_more (fun j hj => tf_more hq hj) HI.out hj⟩
  exact (B1.out.mono (O' := SK S P M T Qt An Af) (fun j hj => .inr (.inl hj))).trans B2.out.chg (fun j hj => .inl (.inr (.inr (.inl hj))))
theorem s_len (h : SX w S lim l O) (q : Int) (hq : q = (l.length : Int)) :
    Calls Try.prog 15 #[.pointer (some ⟨S, 0, none⟩)] w fun e w' => e = .returned (.int .i64 q) ∧ ∃ N, w' = w.drewN N := by
  obtain ⟨P, M, T, Qt, seed, n, pr, cn, cf, An, Af, ns, fs, tr, hb, hp, rfl⟩ := h
  have c1 : w.cell? ⟨S, 1, none⟩ = some (.pointer (some ⟨P, 0, none⟩)) := cell_of_row w S 1 _ _ (0, 0) hb.row
  have hlen : ns.length - fs.length = l.length := by rw [hb.si.live_len, hp.length_eq, Sv.vl_len]
  have hl := Pp.p_len w 0 P M lim cn cf An Af ns fs hb.po
  rw [hlen, ← hq] at hl
  have HL := Lib.hid hl
  clear hb hp hl hlen hq
  go_enter Try.func15, Try.ntmps15
  go_wp2_with ((go_at_call 33; (with_reducible refine HL.out.mono ?_); rintro e w1 ⟨rfl, N, rfl⟩))
  go_ret
  exact ⟨rfl, _, rfl⟩
theorem s_room (h : SX w S lim l O) (k : Int) (b : Bool) (hb' : b = decide (k ≤ (lim : Int) - (l.length : Int))) :
    Calls Try.prog 16 #[.pointer (some ⟨S, 0, none⟩), .int .i64 k] w fun e w' => e = .returned (.bool b) ∧ ∃ N, w' = w.drewN N := by
  obtain ⟨P, M, T, Qt, seed, n, pr, cn, cf, An, Af, ns, fs, tr, hb, hp, rfl⟩ := h
  have c1 : w.cell? ⟨S, 1, none⟩ = some (.pointer (some ⟨P, 0, none⟩)) := cell_of_row w S 1 _ _ (0, 0) hb.row
  have hlen : ns.length - fs.length = l.length := by rw [hb.si.live_len, hp.length_eq, Sv.vl_len]
  have hl := Pp.p_room w 0 P M lim cn cf An Af ns fs hb.po k
  rw [hlen, ← hb'] at hl
  have HL := Lib.hid hl
  clear hb hp hl hlen hb'
  go_enter Try.func16, Try.ntmps16
  go_wp2_with ((go_at_call 34; (with_reducible refine HL.out.mono ?_); rintro e w1 ⟨rfl, N, rfl⟩))
  go_ret
  exact ⟨rfl, _, rfl⟩
end
def SNew (w : World) (lim : Nat) (e : Ending) (w' : World) : Prop :=
  ∃ S O, e = .returned (.tuple #[.pointer (some ⟨S, 0, none⟩), .int .i64 0]) ∧ SX w' S lim [] O ∧ (∀ j, O j → w.heap.size ≤ j) ∧ Below w.heap.size w w'
set_option maxHeartbeats 1000000 in
theorem s_new (w : World) (seed lim : Nat) (hlim : lim ≤ 1048576) :
    Calls Try.prog 7 #[.int .u64 (seed : Int), .int .i64 (lim : Int)] w (SNew w lim) := by
  go_enter Try.func7, Try.ntmps7
  go_wp2_with (first
    | (go_at_call 20; (with_reducible refine (Hs.m_new _).mono ?_); rintro e w1 ⟨rfl, hm, hb1⟩
       have HM := Lib.hid hm
       have B1 := Lib.hid hb1
       have HP := Lib.hid (Pp.p_new w1 0 w.heap.size lim hm.lt hlim (Nat.zero_le _))
       clear hm hb1)
    | (go_at_call 21; (with_reducible refine HP.out.mono ?_); rintro e w2 ⟨rfl, hp, hb2⟩
       have HPo := Lib.hid hp
       have B2 := Lib.hid hb2
       have HT := Lib.hid (Hs.tab_new w2 seed w.heap.size (HM.out.below hb2 HM.out.lt))
       clear hp hb2)
    | (go_at_call 22; (with_reducible refine HT.out.mono ?_); rintro e w3 ⟨T, Qt, M, rfl, ht, hb3, hz1, hz2, hM⟩
       have HT3 := Lib.hid ht
       have B3 := Lib.hid hb3
       have Z1 := Lib.hid hz1
       have Z2 := Lib.hid hz2
       have HM3 := Lib.hid hM
       clear ht hb3 hz1 hz2 hM))
  go_ret2
  obtain rfl : w.heap.size = M := by
    rcases HM3.out with h | h
    · exact (Option.some.inj h)
    · exact absurd h.1 (by simp)
  have hs1 := B1.out.size
  have hs2 := B2.out.size
  have hs3 := B3.out.size
  have hpo3 := HPo.out.but (ButS.of_below (S := fun _ => False) B3.out (Nat.le_refl _)) (fun _ _ h => h)
  have ba := but_alloc' w3 (.cells #[.pointer (some ⟨w.heap.size, 0, none⟩), .pointer (some ⟨w1.heap.size, 0, none⟩), .pointer (some ⟨T, 0, none⟩)] 62) (fun _ => False)
  refine ⟨w3.heap.size, SK w3.heap.size w1.heap.size w.heap.size T Qt none none, rfl, ⟨_, _, _, _, seed, 8, 0, 0, 0, none, none, [], [], [], ⟨K.alloc_top _ _, hpo3.but ba (fun _ _ h => h), HT3.out.but ba (fun _ _ h => h), Sv.SI.nil⟩, List.Perm.refl _, rfl⟩, fun j hj => ?_, ?_⟩
  · rcases hj with rfl | (rfl | h | h) | rfl | rfl | rfl
    · omega
    · exact hs1
    · cases h
    · cases h
    · have := Z1.out; omega
    · have := Z2.out; omega
    · exact Nat.le_refl _
  · exact (((B1.out.trans (B2.out.mono hs1)).trans (B3.out.mono (Nat.le_trans hs1 hs2)))).alloc (by omega) _
theorem s_new_no (w : World) (seed : Nat) (n : Int) (hn : ¬ (0 ≤ n ∧ n ≤ 1048576)) :
    Calls Try.prog 7 #[.int .u64 (seed : Int), .int .i64 n] w fun e w' => e = .returned (.tuple #[.pointer none, .int .i64 1]) ∧ Below w.heap.size w w' := by
  go_enter Try.func7, Try.ntmps7
  go_wp2_with (first
    | (go_at_call 20; (with_reducible refine (Hs.m_new _).mono ?_); rintro e w1 ⟨rfl, hm, hb1⟩
       have B1 := Lib.hid hb1
       clear hm hb1)
    | (go_at_call 21; (with_reducible refine (Pp.p_new_no w1 n _ hn).mono ?_); rintro e w2 ⟨rfl, rfl⟩))
  go_ret2
  exact ⟨rfl, B1.out⟩
end Go.Proofs.Ytihhkdcgnnfkkaa
