
/- Values by keys are asked, put, dropped, cleared; the texts walked. -/
import Derived.Test.YtihhkdcgnnfkkaaSlo2
namespace Go.Proofs.Ytihhkdcgnnfkkaa
set_option maxRecDepth 20000
open Go.RowKit
theorem s_read (w : World) (g : Nat) (h : Hs.Mt w g 0 0 0 0 0) :
    Calls Try.prog 41 #[.pointer (some ⟨g, 0, none⟩)] w fun e w' => e = .returned (.tuple #[]) ∧ Hs.Mt w' g 0 0 0 0 0 ∧ w.grownBy w' (some g) := by
  obtain ⟨r, c, s, t, p, hr⟩ := h
  have hc := cell_of_row w g 0 _ _ (0, 0) hr
  have hf := frozen_of_row w g 0 _ _ hr
  simp at hc
  have h2 : Hs.Mt (w.setCell ⟨g, 0, none⟩ (.int .i64 (wrap64 (r + 1)))) g 0 0 0 0 0 := ⟨wrap64 (r + 1), c, s, t, p, by
    have := row_set hr 0 (.int .i64 (wrap64 (r + 1)))
    simpa using this⟩
  have H := Lib.hid h2
  have G := Lib.hid (Hs.grown_set w g 0 (.int .i64 (wrap64 (r + 1))))
  have hsH := Lib.hid (Hs.m_step _ g h2)
  clear hr h2
  go_enter Try.func41, Try.ntmps41
  go_wp2_with (go_at_call 48; (with_reducible refine hsH.out.mono ?_); rintro e w1 ⟨rfl, hm, hg⟩; have HM := Lib.hid hm; have HG := Lib.hid hg; clear hm hg)
  go_end0
  exact ⟨rfl, HM.out.any, Hs.grown_trans2 G.out HG.out⟩
theorem tab_met {w w' : World} {P Q M seed n pr cl : Nat} {es : List (Hs.H.Key × Nat)} (a : Hs.Tab w P Q M seed n es pr cl) (g : w.grownBy w' (some M)) (hm : Hs.Mt w' M 0 0 0 0 0) : Hs.Tab w' P Q M seed n es pr 0 := by
  obtain ⟨ps, t, p, h1, h2, h3, h4, h5, h6, h7, _⟩ := a
  have hne := Hs.tb_ne_m h1 h7
  exact ⟨ps, 0, p, h1.but (ButS.of_grown (S := (· = M)) g (fun j e => by cases e; rfl)) hne.1 hne.2, h2, h3, h4, h5, h6, hm.any, Nat.zero_le _⟩
section
variable {w : World} {S P M T Qt lim seed n pr cn cf : Nat} {An Af : Option Addr} {ns : List (Nat × Bool)} {fs : List Nat} {tr : Tr}
theorem s_at (h : SB w S P M T Qt lim seed n pr cn cf An Af ns fs tr) (p v : Nat) (hp : ns[p]? = some (v, true)) :
    Calls Try.prog 27 #[.pointer (some ⟨P, 0, none⟩), .int .i64 (p : Int)] w fun e w' => e = .returned (.tuple #[.int .u64 (v : Int), .bool true]) ∧ SB w' S P M T Qt lim seed n pr cn cf An Af ns fs tr ∧ K.Chg w w' (Hs.TF T Qt M) := by
  obtain ⟨hlt, hpv⟩ := List.getElem?_eq_some_iff.1 hp
  have hk := Pp.p_peek_yes w 0 P M lim cn cf An Af ns fs h.po p hlt (by rw [hpv])
  rw [hpv] at hk
  have hm := (tab_rowsS h.tab).2.2
  have HK := Lib.hid hk
  have HR := Lib.hid (s_read w M hm)
  have hc0 := h.po.c0
  have H := Lib.hid h
  clear h hk hp hpv hlt hm
  go_enter Try.func27, Try.ntmps27
  go_wp2_with (first
    | (go_at_call 40; (with_reducible refine HK.out.mono ?_); rintro e w' ⟨rfl, rfl⟩)
    | (go_at_call 41; (with_reducible refine HR.out.mono ?_); rintro e w2 ⟨rfl, hM2, hG2⟩; have hM2H := Lib.hid hM2; clear hM2; have hG2H := Lib.hid hG2; clear hG2))
  go_ret2
  have b : K.Chg w w2 (Hs.TF T Qt M) := (chg_refl w _).grown hG2H.out (fun j e => by cases e; exact .inl (.inr (.inr rfl)))
  have h := H.out
  exact ⟨rfl, ⟨(b.block S (h.lt (.inl rfl)) h.s_tf).trans h.row, h.po.but (ButS.of_chg b) (fun j hj hj2 => h.pb_tf hj hj2), tab_met h.tab hG2H.out hM2H.out, h.si⟩, b⟩
/-- A place is taken. -/
theorem s_alloc (h : Pp.Po w 0 P M lim An cn Af cf ns fs) (hs : Sv.SI ns fs tr) (k v : Nat) (hk : ∀ x ∈ tr, x.1 ≠ k) (hf : tr.length < lim) :
    ∃ i ns' fs', Sv.SI ns' fs' ((k, i) :: tr) ∧ Sv.vl ns' ((k, i) :: tr) = (k, v) :: Sv.vl ns tr ∧
      Calls Try.prog 31 #[.pointer (some ⟨P, 0, none⟩), .int .u64 (v : Int)] w fun e w' => e = .returned (.tuple #[.int .i64 (i : Int), .bool true]) ∧ Pp.PStep w 0 P M lim An Af ns' fs' w' := by
  have hl := hs.live_len
  rcases List.eq_nil_or_concat fs with rfl | ⟨fs', i, rfl⟩
  · obtain ⟨h1, h2⟩ := hs.new hk v
    exact ⟨_, _, _, h1, h2, Pp.p_alloc_new w 0 P M lim cn cf An Af ns h v (by simp at hl; omega)⟩
  · simp only [List.concat_eq_append] at *
    obtain ⟨h1, h2⟩ := hs.pop hk v
    exact ⟨_, _, _, h1, h2, Pp.p_alloc_pop w 0 P M lim cn cf An Af ns fs' i h v (by omega)⟩
end
section
variable {w : World} {S lim : Nat} {l : Tr} {O : Nat → Prop}
set_option maxHeartbeats 1000000 in
theorem s_get_yes (h : SX w S lim l O) (k v : Nat) (hm : (k, v) ∈ l) :
    Calls Try.prog 11 #[.pointer (some ⟨S, 0, none⟩), .int .u64 (k : Int)] w fun e w' => e = .returned (.tuple #[.int .u64 (v : Int), .bool true]) ∧ SR w O S lim l w' := by
  obtain ⟨P, M, T, Qt, seed, n, pr, cn, cf, An, Af, ns, fs, tr, hb, hp, rfl⟩ := h
  obtain ⟨p, tr', ht, hpv, _⟩ := hb.si.find hp (List.perm_cons_erase hm)
  have HP := Lib.hid (s_place w S P M T Qt lim seed n pr cn cf An Af ns fs tr hb k p true (.inl ⟨rfl, ht.symm.subset (by simp)⟩))
  have HV := Lib.hid hpv
  have HE := Lib.hid hp
  clear hb hm hpv ht hp
  go_enter Try.func11, Try.ntmps11
  go_wp2_with (first
    | (go_at_call 23; (with_reducible refine HP.out.mono ?_); rintro e w1 ⟨rfl, Qt', n', pr', h1, b1, q1⟩
       have c1 : w1.cell? ⟨S, 1, none⟩ = some (.pointer (some ⟨P, 0, none⟩)) := cell_of_row w1 S 1 _ _ (0, 0) h1.row
       have HA := Lib.hid (s_at h1 p v HV.out)
       have B1 := Lib.hid b1
       have Q1 := Lib.hid q1
       clear h1 b1 q1)
    | (go_at_call 27; (with_reducible refine HA.out.mono ?_); rintro e w2 ⟨rfl, h2, b2⟩; have H2 := Lib.hid h2; have B2 := Lib.hid b2; clear h2 b2))
  go_ret2
  have ht : ∀ j, Hs.TF T Qt' M j → Hs.TF T Qt M j ∨ w.heap.size ≤ j := fun j hj => by
    rcases hj with rfl | rfl | rfl
    · exact .inl (.inl rfl)
    · rcases Q1.out with rfl | h
      · exact .inl (.inr (.inl rfl))
      · exact .inr h
    · exact .inl (.inr (.inr rfl))
  refine ⟨rfl, _, ⟨P, M, T, Qt', seed, n', pr', cn, cf, An, Af, ns, fs, tr, H2.out, HE.out, rfl⟩, (B1.out.trans B2.out ht).mono (fun j hj => .inr (.inr hj)), fun j hj => ?_⟩
  rcases hj with rfl | hj | hj
  · exact .inl (.inl rfl)
  · exact .inl (.inr (.inl hj))
  · rcases ht j hj with h | h
    · exact .inl (.inr (.inr h))
    · exact .inr h
set_option maxHeartbeats 1000000 in
theorem s_get_no (h : SX w S lim l O) (k : Nat) (hk : ∀ x ∈ l, x.1 ≠ k) :
    Calls Try.prog 11 #[.pointer (some ⟨S, 0, none⟩), .int .u64 (k : Int)] w fun e w' => e = .returned (.tuple #[.int .u64 0, .bool false]) ∧ SR w O S lim l w' := by
  obtain ⟨P, M, T, Qt, seed, n, pr, cn, cf, An, Af, ns, fs, tr, hb, hp, rfl⟩ := h
  have HP := Lib.hid (s_place w S P M T Qt lim seed n pr cn cf An Af ns fs tr hb k 0 false (.inr ⟨rfl, rfl, Sv.SI.none hp hk⟩))
  have HE := Lib.hid hp
  clear hb hk hp
  go_enter Try.func11, Try.ntmps11
  go_wp2_with (first
    | (go_at_call 23; (with_reducible refine HP.out.mono ?_); rintro e w1 ⟨rfl, Qt', n', pr', h1, b1, q1⟩
       have H1 := Lib.hid h1
       have B1 := Lib.hid b1
       have Q1 := Lib.hid q1
       clear h1 b1 q1))
  go_ret2
  refine ⟨rfl, _, ⟨P, M, T, Qt', seed, n', pr', cn, cf, An, Af, ns, fs, tr, H1.out, HE.out, rfl⟩, B1.out.mono (fun j hj => .inr (.inr hj)), fun j hj => ?_⟩
  rcases hj with rfl | hj | rfl | rfl | rfl
  · exact .inl (.inl rfl)
  · exact .inl (.inr (.inl hj))
  · exact .inl (.inr (.inr (.inl rfl)))
  · rcases Q1.out with rfl | h
    · exact .inl (.inr (.inr (.inr (.inl rfl))))
    · exact .inr h
  · exact .inl (.inr (.inr (.inr (.inr rfl))))
/-- What a table's blocks are behind a call. -/
theorem tf_more {w : World} {T Qt Qt' M j : Nat} (hq : Qt' = Qt ∨ w.heap.size ≤ Qt') (hj : Hs.TF T Qt' M j) : Hs.TF T Qt M j ∨ w.heap.size ≤ j := by
  rcases hj with rfl | rfl | rfl
  · exact .inl (.inl rfl)
  · rcases hq with rfl | h
    · exact .inl (.inr (.inl rfl))
    · exact .inr h
  · exact .inl (.inr (.inr rfl))
theorem sk_more {w : World} {S P M T Qt Qt' : Nat} {An Af An' Af' : Option Addr} (ht : ∀ j, Hs.TF T Qt' M j → Hs.TF T Qt M j ∨ w.heap.size ≤ j) (hp : ∀ j, Pp.PB P An' Af' j → Pp.PB P An Af j ∨ w.heap.size ≤ j) {j : Nat} (hj : SK S P M T Qt' An' Af' j) : SK S P M T Qt An Af j ∨ w.heap.size ≤ j := by
  rcases hj with rfl | hj | hj
  · exact .inl (.inl rfl)
  · exact (hp j hj).imp (fun h => .inr (.inl h)) id
  · exact (ht j hj).imp (fun h => .inr (.inr h)) id
set_option maxHeartbeats 1000000 in
theorem s_put_old (h : SX w S lim l O) (k v v0 : Nat) (r : Tr) (hr : l.Perm ((k, v0) :: r)) :
    Calls Try.prog 13 #[.pointer (some ⟨S, 0, none⟩), .int .u64 (k : Int), .int .u64 (v : Int)] w fun e w' => e = .returned (.tuple #[.bool false, .int .i64 0]) ∧ SR w O S lim ((k, v) :: r) w' := by
  obtain ⟨P, M, T, Qt, seed, n, pr, cn, cf, An, Af, ns, fs, tr, hb, hp, rfl⟩ := h
  obtain ⟨p, tr', ht, hpv, hrp⟩ := hb.si.find hp hr
  have HP := Lib.hid (s_place w S P M T Qt lim seed n pr cn cf An Af ns fs tr hb k p true (.inl ⟨rfl, ht.symm.subset (by simp)⟩))
  obtain ⟨hlt, hpe⟩ := List.getElem?_eq_some_iff.1 hpv
  have hput := (hb.si.perm ht).put v
  have HN := Lib.hid hput
  have HT := Lib.hid ht
  have HE := Lib.hid hrp
  have HQ := Lib.hid (show ∃ h : p < ns.length, ns[p].2 = true from ⟨hlt, by rw [hpe]⟩)
  clear hb hpv ht hp hr hput hrp hlt hpe
  go_enter Try.func13, Try.ntmps13
  go_wp2_with (first
    | (go_at_call 23; (with_reducible refine HP.out.mono ?_); rintro e w1 ⟨rfl, Qt', n', pr', h1, b1, q1⟩
       have c1 : w1.cell? ⟨S, 1, none⟩ = some (.pointer (some ⟨P, 0, none⟩)) := cell_of_row w1 S 1 _ _ (0, 0) h1.row
       have HA := Lib.hid (Pp.p_put_yes w1 0 P M lim cn cf An Af ns fs h1.po p HQ.out.1 HQ.out.2 v)
       have H1 := Lib.hid h1
       have B1 := Lib.hid b1
       have Q1 := Lib.hid q1
       clear h1 b1 q1)
    | (go_at_call 30; (with_reducible refine HA.out.mono ?_); rintro e w2 ⟨rfl, h2⟩; have H2 := Lib.hid h2; clear h2))
  go_ret2
  obtain ⟨An', cn', Af', cf', ⟨hrow, hpo, htab⟩, b2, hi⟩ := H1.out.pools H2.out
  have hs := B1.out.size
  have hi' : ∀ j, Pp.PB P An' Af' j → Pp.PB P An Af j ∨ w.heap.size ≤ j := fun j hj => (hi j hj).imp id (fun h => Nat.le_trans hs h)
  refine ⟨rfl, _, ⟨P, M, T, Qt', seed, n', pr', cn', cf', An', Af', _, fs, tr, ⟨hrow, hpo, htab, HN.out.1.perm HT.out.symm⟩, ?_, rfl⟩, ?_, fun j hj => sk_more (fun j hj => tf_more Q1.out hj) hi' hj⟩
  · refine List.Perm.trans ?_ (Sv.vl_perm HT.out.symm)
    rw [HN.out.2]
    exact List.Perm.cons _ HE.out
  · exact (B1.out.mono (O' := SK S P M T Qt An Af) (fun j hj => .inr (.inr hj))).trans b2 (fun j hj => .inl (.inr (.inl hj)))
set_option maxHeartbeats 1000000 in
theorem s_put_full (h : SX w S lim l O) (k v : Nat) (hk : ∀ x ∈ l, x.1 ≠ k) (hf : lim ≤ l.length) :
    Calls Try.prog 13 #[.pointer (some ⟨S, 0, none⟩), .int .u64 (k : Int), .int .u64 (v : Int)] w fun e w' => e = .returned (.tuple #[.bool false, .int .i64 5]) ∧ SR w O S lim l w' := by
  obtain ⟨P, M, T, Qt, seed, n, pr, cn, cf, An, Af, ns, fs, tr, hb, hp, rfl⟩ := h
  have HP := Lib.hid (s_place w S P M T Qt lim seed n pr cn cf An Af ns fs tr hb k 0 false (.inr ⟨rfl, rfl, Sv.SI.none hp hk⟩))
  have hfull : lim ≤ ns.length - fs.length := by
    rw [hb.si.live_len]
    have := hp.length_eq
    rw [Sv.vl_len] at this
    omega
  have HE := Lib.hid hp
  clear hb hk hp hf
  go_enter Try.func13, Try.ntmps13
  go_wp2_with (first
    | (go_at_call 23; (with_reducible refine HP.out.mono ?_); rintro e w1 ⟨rfl, Qt', n', pr', h1, b1, q1⟩
       have c1 : w1.cell? ⟨S, 1, none⟩ = some (.pointer (some ⟨P, 0, none⟩)) := cell_of_row w1 S 1 _ _ (0, 0) h1.row
       have HA := Lib.hid (Pp.p_alloc_full w1 0 P M lim cn cf An Af ns fs h1.po v hfull)
       have H1 := Lib.hid h1
       have B1 := Lib.hid b1
       have Q1 := Lib.hid q1
       clear h1 b1 q1)
    | (go_at_call 31; (with_reducible refine HA.out.mono ?_); rintro e w2 ⟨rfl, N, rfl⟩))
  go_ret2
  refine ⟨rfl, _, ⟨P, M, T, Qt', seed, n', pr', cn, cf, An, Af, ns, fs, tr, H1.out.chg ((chg_refl w1 (fun _ => False)).drewN N) (fun _ _ h => h), HE.out, rfl⟩, (B1.out.mono (O' := SK S P M T Qt An Af) (fun j hj => .inr (.inr hj))).drewN N, fun j hj => sk_more (fun j hj => tf_more Q1.out hj) (fun j hj => .inl hj) hj⟩
end
end Go.Proofs.Ytihhkdcgnnfkkaa
