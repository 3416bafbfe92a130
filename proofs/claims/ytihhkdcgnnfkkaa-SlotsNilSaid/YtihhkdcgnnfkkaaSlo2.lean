
/- Values by keys in memory: the pool, the table, their meter; what a call leaves; the texts of place and name walked. -/
import Derived.Test.YtihhkdcgnnfkkaaSlo1
import Derived.Test.YtihhkdcgnnfkkaaPObj5
import Derived.Test.YtihhkdcgnnfkkaaHClr
import Derived.Deep.RegionHeld3
namespace Go.Proofs.Ytihhkdcgnnfkkaa
set_option maxRecDepth 20000
open Go.RowKit
abbrev Tr := List (Nat × Nat)
theorem own_block_lt {w : World} {base : Nat} {e : TypeId} {size n c : Nat} {A : Option Addr} {xs : List Value} (h : w.ownsRow base e size (.slice A n c) n xs) {j : Nat} (hj : A.map (·.block) = some j) : j < w.heap.size ∧ ∃ cur, w.heap[j]? = some (.cells cur e (0, 0)) := by
  rcases own_addr h with ⟨rfl, _⟩ | ⟨g, rfl, hg, _, cur, hc⟩
  · cases hj
  · cases hj; exact ⟨hg, cur, hc⟩
/-- The slots at S. -/
structure SB (w : World) (S P M T Qt lim seed n pr cn cf : Nat) (An Af : Option Addr) (ns : List (Nat × Bool)) (fs : List Nat) (tr : Tr) : Prop where
  row : w.heap[S]? = some (.cells #[.pointer (some ⟨M, 0, none⟩), .pointer (some ⟨P, 0, none⟩), .pointer (some ⟨T, 0, none⟩)] 62 (0, 0))
  po : Pp.Po w 0 P M lim An cn Af cf ns fs
  tab : Hs.Tab w T Qt M seed n (Sv.es tr) pr 0
  si : Sv.SI ns fs tr
/-- Their blocks. -/
def SK (S P M T Qt : Nat) (An Af : Option Addr) (j : Nat) : Prop := j = S ∨ Pp.PB P An Af j ∨ Hs.TF T Qt M j
theorem tab_rowsS {w : World} {P Q M seed n pr cl : Nat} {es : List (Hs.H.Key × Nat)} (h : Hs.Tab w P Q M seed n es pr cl) : (∃ c, w.heap[P]? = some (.cells c 79 (0, 0))) ∧ (∃ c, w.heap[Q]? = some (.cells c 86 (0, 0))) ∧ Hs.Mt w M 0 0 0 0 0 := by
  obtain ⟨ps, t, p, h1, _, _, _, _, _, h7, _⟩ := h
  exact ⟨⟨_, h1.row⟩, ⟨_, h1.pl⟩, h7.any⟩
section
variable {w w' : World} {S P M T Qt lim seed n pr cn cf : Nat} {An Af : Option Addr} {ns : List (Nat × Bool)} {fs : List Nat} {tr : Tr}
theorem pb_rowsS (h : Pp.Po w 0 P M lim An cn Af cf ns fs) {j : Nat} (hj : Pp.PB P An Af j) : ∃ c T, w.heap[j]? = some (.cells c T (0, 0)) ∧ (T = 76 ∨ T = 84 ∨ T = 3) := by
  rcases hj with rfl | hj | hj
  · exact ⟨_, _, h.row, .inl rfl⟩
  · obtain ⟨_, c, hc⟩ := own_block_lt h.nodes hj
    exact ⟨_, _, hc, .inr (.inl rfl)⟩
  · obtain ⟨_, c, hc⟩ := own_block_lt h.freed hj
    exact ⟨_, _, hc, .inr (.inr rfl)⟩
theorem tf_rowsS {es : List (Hs.H.Key × Nat)} {cl : Nat} (h : Hs.Tab w T Qt M seed n es pr cl) {j : Nat} (hj : Hs.TF T Qt M j) : ∃ c T, w.heap[j]? = some (.cells c T (0, 0)) ∧ (T = 79 ∨ T = 86 ∨ T = 72) := by
  obtain ⟨⟨c1, h1⟩, ⟨c2, h2⟩, ⟨_, _, _, _, _, h3⟩⟩ := tab_rowsS h
  rcases hj with rfl | rfl | rfl
  · exact ⟨_, _, h1, .inl rfl⟩
  · exact ⟨_, _, h2, .inr (.inl rfl)⟩
  · exact ⟨_, _, h3, .inr (.inr rfl)⟩
theorem SB.s_tf (h : SB w S P M T Qt lim seed n pr cn cf An Af ns fs tr) : ¬ Hs.TF T Qt M S := fun hj => by
  obtain ⟨c, T, hr, ht⟩ := tf_rowsS h.tab hj
  rcases ht with rfl | rfl | rfl <;> exact row_ne h.row hr (by decide) rfl
theorem SB.s_pb (h : SB w S P M T Qt lim seed n pr cn cf An Af ns fs tr) : ¬ Pp.PB P An Af S := fun hj => by
  obtain ⟨c, T, hr, ht⟩ := pb_rowsS h.po hj
  rcases ht with rfl | rfl | rfl <;> exact row_ne h.row hr (by decide) rfl
theorem SB.pb_tf (h : SB w S P M T Qt lim seed n pr cn cf An Af ns fs tr) {j : Nat} (h1 : Pp.PB P An Af j) (h2 : Hs.TF T Qt M j) : False := by
  obtain ⟨c, T, hr, ht⟩ := pb_rowsS h.po h1
  obtain ⟨c', T', hr', ht'⟩ := tf_rowsS h.tab h2
  rcases ht with rfl | rfl | rfl <;> rcases ht' with rfl | rfl | rfl <;> exact row_ne hr hr' (by decide) rfl
theorem SB.lt (h : SB w S P M T Qt lim seed n pr cn cf An Af ns fs tr) {j : Nat} (hj : SK S P M T Qt An Af j) : j < w.heap.size := by
  rcases hj with rfl | hj | hj
  · exact row_lt h.row
  · obtain ⟨c, T, hr, _⟩ := pb_rowsS h.po hj
    exact row_lt hr
  · obtain ⟨c, T, hr, _⟩ := tf_rowsS h.tab hj
    exact row_lt hr
theorem SB.chg {O : Nat → Prop} (h : SB w S P M T Qt lim seed n pr cn cf An Af ns fs tr) (b : K.Chg w w' O) (hO : ∀ j, SK S P M T Qt An Af j → ¬ O j) : SB w' S P M T Qt lim seed n pr cn cf An Af ns fs tr :=
  ⟨(b.block S (h.lt (.inl rfl)) (hO S (.inl rfl))).trans h.row, h.po.but (ButS.of_chg b) (fun j hj => hO j (.inr (.inl hj))), h.tab.but (ButS.of_chg b) (fun j hj => hO j (.inr (.inr hj))), h.si⟩
/-- The table is changed. -/
theorem SB.tabs {es' : List (Hs.H.Key × Nat)} {cl : Nat} (h : SB w S P M T Qt lim seed n pr cn cf An Af ns fs tr) (hs : Hs.TStep w T Qt M seed n es' cl w') :
    ∃ Qt' n' pr', (w'.heap[S]? = some (.cells #[.pointer (some ⟨M, 0, none⟩), .pointer (some ⟨P, 0, none⟩), .pointer (some ⟨T, 0, none⟩)] 62 (0, 0)) ∧ Pp.Po w' 0 P M lim An cn Af cf ns fs ∧ Hs.Tab w' T Qt' M seed n' es' pr' 0) ∧ K.Chg w w' (Hs.TF T Qt M) ∧ (Qt' = Qt ∨ w.heap.size ≤ Qt') := by
  obtain ⟨Qt', n', pr', ht, hb, hq, _⟩ := hs
  have b := hb.chg
  exact ⟨Qt', n', pr', ⟨(b.block S (h.lt (.inl rfl)) h.s_tf).trans h.row, h.po.but hb (fun j hj hj2 => h.pb_tf hj hj2), ht.any 0⟩, b, hq⟩
/-- The pool is changed. -/
theorem SB.pools {ns' : List (Nat × Bool)} {fs' : List Nat} (h : SB w S P M T Qt lim seed n pr cn cf An Af ns fs tr) (hs : Pp.PStep w 0 P M lim An Af ns' fs' w') :
    ∃ An' cn' Af' cf', (w'.heap[S]? = some (.cells #[.pointer (some ⟨M, 0, none⟩), .pointer (some ⟨P, 0, none⟩), .pointer (some ⟨T, 0, none⟩)] 62 (0, 0)) ∧ Pp.Po w' 0 P M lim An' cn' Af' cf' ns' fs' ∧ Hs.Tab w' T Qt M seed n (Sv.es tr) pr 0) ∧ K.Chg w w' (Pp.PB P An Af) ∧ ∀ j, Pp.PB P An' Af' j → Pp.PB P An Af j ∨ w.heap.size ≤ j := by
  obtain ⟨An', cn', Af', cf', hp, hb, hi⟩ := hs
  have b := hb.chg
  exact ⟨An', cn', Af', cf', ⟨(b.block S (h.lt (.inl rfl)) h.s_pb).trans h.row, hp, h.tab.but hb (fun j hj hj2 => h.pb_tf hj2 hj)⟩, b, hi⟩
end
/-- The slots, of which blocks and keys are told. -/
def SX (w : World) (S lim : Nat) (l : Tr) (O : Nat → Prop) : Prop :=
  ∃ P M T Qt seed n pr cn cf An Af ns fs tr, SB w S P M T Qt lim seed n pr cn cf An Af ns fs tr ∧ l.Perm (Sv.vl ns tr) ∧ O = SK S P M T Qt An Af
/-- What a call leaves of them. -/
def SR (w : World) (O : Nat → Prop) (S lim : Nat) (l : Tr) (w' : World) : Prop :=
  ∃ O', SX w' S lim l O' ∧ K.Chg w w' O ∧ ∀ j, O' j → O j ∨ w.heap.size ≤ j
section
variable {w w' w2 : World} {S lim : Nat} {l l' : Tr} {O O' : Nat → Prop}
theorem SX.lt (h : SX w S lim l O) : ∀ j, O j → j < w.heap.size := by
  obtain ⟨_, _, _, _, _, _, _, _, _, _, _, _, _, _, hb, _, rfl⟩ := h
  exact fun j hj => hb.lt hj
theorem SX.chg (h : SX w S lim l O) (b : K.Chg w w' O') (hO : ∀ j, O j → ¬ O' j) : SX w' S lim l O := by
  obtain ⟨_, _, _, _, _, _, _, _, _, _, _, _, _, _, hb, hp, rfl⟩ := h
  exact ⟨_, _, _, _, _, _, _, _, _, _, _, _, _, _, hb.chg b hO, hp, rfl⟩
theorem SX.perm (h : SX w S lim l O) (hp : l.Perm l') : SX w S lim l' O := by
  obtain ⟨_, _, _, _, _, _, _, _, _, _, _, _, _, _, hb, h2, rfl⟩ := h
  exact ⟨_, _, _, _, _, _, _, _, _, _, _, _, _, _, hb, hp.symm.trans h2, rfl⟩
theorem SX.ky (h : SX w S lim l O) : (l.map (·.1)).Nodup := by
  obtain ⟨_, _, _, _, _, _, _, _, _, _, _, _, _, _, hb, h2, rfl⟩ := h
  rw [(h2.map _).nodup_iff, Sv.vl_keys]
  exact hb.si.ky
theorem SR.refl (h : SX w S lim l O) : SR w O S lim l w := ⟨O, h, chg_refl w O, fun j hj => .inl hj⟩
theorem SR.perm (h : SR w O S lim l w') (hp : l.Perm l') : SR w O S lim l' w' := by
  obtain ⟨O', h1, h2, h3⟩ := h
  exact ⟨O', h1.perm hp, h2, h3⟩
theorem SR.then {lim' : Nat} (h : SR w O S lim l w') (k : ∀ O', SX w' S lim l O' → SR w' O' S lim' l' w2) : SR w O S lim' l' w2 := by
  obtain ⟨O', h1, h2, h3⟩ := h
  obtain ⟨O2, k1, k2, k3⟩ := k O' h1
  refine ⟨O2, k1, h2.trans k2 h3, fun j hj => ?_⟩
  rcases k3 j hj with h | h
  · exact h3 j h
  · exact .inr (Nat.le_trans h2.size h)
end
theorem key_res {fn : Func} {u : Tmp} (h : fn.results = #[.cell u 66]) (tmps : Array Value) (w : World) (g : Nat) (a b : Value) (hu : tmps.getD u undef = .pointer (some ⟨g, 0, none⟩))
    (hc : w.heap[g]? = some (.cells #[a, b] 66 (0, 0))) : (results fn tmps).run Try.prog w = .ok (.agg #[a, b]) w := by
  have hp' : tmps[u]?.getD undef = .pointer (some ⟨g, 0, none⟩) := by simpa using hu
  have hr := run_loadVar_row (P := Try.prog) w g 66 66 _ (0, 0) _ hc Try.underlying66 (by kernel_rfl) (by kernel_rfl)
  simp [results, h, hp', asAddr, hr]
theorem s_name (w : World) (k : Nat) :
    Calls Try.prog 25 #[.int .u64 (k : Int)] w fun e w' => e = .returned (.agg #[.int .u8 0, .int .u64 (k : Int)]) ∧ Below w.heap.size w w' := by
  go_enter Try.func25, Try.ntmps25
  go_wp2
  exact bodyPost_ret (key_res rfl _ _ w.heap.size _ _ rfl (K.alloc_top _ _)) rfl ⟨rfl, (Below.refl _ w).alloc (Nat.le_refl _) _⟩
/-- What the table tells of a key. -/
def Stl (tr : Tr) (k p : Nat) (b : Bool) : Prop := (b = true ∧ (k, p) ∈ tr) ∨ (b = false ∧ p = 0 ∧ ∀ x ∈ tr, x.1 ≠ k)
theorem Stl.es {tr : Tr} {k p : Nat} {b : Bool} (h : Stl tr k p b) : (b = true ∧ ((0, k), p) ∈ Sv.es tr) ∨ (b = false ∧ p = 0 ∧ ∀ x ∈ Sv.es tr, x.1 ≠ (0, k)) := by
  rcases h with ⟨rfl, h⟩ | ⟨rfl, rfl, h⟩
  · exact .inl ⟨rfl, List.mem_map.2 ⟨_, h, rfl⟩⟩
  · refine .inr ⟨rfl, rfl, fun x hx e => ?_⟩
    obtain ⟨y, hy, rfl⟩ := List.mem_map.1 hx
    exact h y hy (by simpa using e)
theorem tab_get0 (w : World) (P Q M seed n pr : Nat) (tr : Tr) (a : Hs.Tab w P Q M seed n (Sv.es tr) pr 0) (k p : Nat) (b : Bool) (h : Stl tr k p b) :
    Calls Try.prog 35 #[.pointer (some ⟨P, 0, none⟩), .agg #[.int .u8 0, .int .u64 (k : Int)]] w (Hs.GotP w P Q M seed n (Sv.es tr) 0 p b) :=
  Hs.tab_get w P Q M seed n pr 0 (Sv.es tr) a (0, k) (by show 0 < 256; omega) (by decide) p b h.es
theorem tab_put0 (w : World) (P Q M seed n pr : Nat) (tr : Tr) (a : Hs.Tab w P Q M seed n (Sv.es tr) pr 0) (k i : Nat) (hk : k < 18446744073709551616) (hi : i < 18446744073709551616) (h : ∀ x ∈ tr, x.1 ≠ k) (hs : (Sv.es tr).length < 1000000) :
    Calls Try.prog 32 #[.pointer (some ⟨P, 0, none⟩), .agg #[.int .u8 0, .int .u64 (k : Int)], .int .u64 (i : Int)] w (Hs.PutP w P Q M seed n (Sv.es ((k, i) :: tr)) 0 true) :=
  Hs.tab_put_no w P Q M seed n pr 0 (Sv.es tr) a (0, k) (by show 0 < 256; omega) hk i hi (fun x hx e => by
    obtain ⟨y, hy, rfl⟩ := List.mem_map.1 hx
    exact h y hy (by simpa using e)) hs
theorem tab_drop0 (w : World) (P Q M seed n pr : Nat) (tr tr' : Tr) (a : Hs.Tab w P Q M seed n (Sv.es tr) pr 0) (k p : Nat) (h : (Sv.es tr).Perm (Sv.es ((k, p) :: tr'))) (hs : (Sv.es tr').length < 1000000) :
    Calls Try.prog 24 #[.pointer (some ⟨P, 0, none⟩), .agg #[.int .u8 0, .int .u64 (k : Int)]] w (Hs.PutP w P Q M seed n (Sv.es tr') 0 true) :=
  Hs.tab_drop_yes w P Q M seed n pr 0 (Sv.es tr) (Sv.es tr') a (0, k) (by show 0 < 256; omega) p h hs
set_option maxHeartbeats 1000000 in
theorem s_place (w : World) (S P M T Qt lim seed n pr cn cf : Nat) (An Af : Option Addr) (ns : List (Nat × Bool)) (fs : List Nat) (tr : Tr) (h : SB w S P M T Qt lim seed n pr cn cf An Af ns fs tr) (k p : Nat) (b : Bool) (hv : Stl tr k p b) :
    Calls Try.prog 23 #[.pointer (some ⟨S, 0, none⟩), .int .u64 (k : Int)] w fun e w' => e = .returned (.tuple #[.int .i64 (p : Int), .bool b]) ∧ ∃ Qt' n' pr', SB w' S P M T Qt' lim seed n' pr' cn cf An Af ns fs tr ∧ K.Chg w w' (Hs.TF T Qt M) ∧ (Qt' = Qt ∨ w.heap.size ≤ Qt') := by
  have hp : p ≤ 2097152 := by
    rcases hv with ⟨_, hm⟩ | ⟨_, rfl, _⟩
    · obtain ⟨u, hu⟩ := h.si.live _ hm
      have := (List.getElem?_eq_some_iff.1 hu).1
      have := h.po.ns_le
      simp at *
      omega
    · omega
  have wp : IntKind.i64.wrap (p : Int) = (p : Int) := IntWalk.i64_in _ (by omega)
  have c2 : w.cell? ⟨S, 2, none⟩ = some (.pointer (some ⟨T, 0, none⟩)) := cell_of_row w S 2 _ _ (0, 0) h.row
  have hdr : SB w.drew S P M T Qt lim seed n pr cn cf An Af ns fs tr := h.chg ((chg_refl w (fun _ => False)).drewN 1) (fun _ _ h => h)
  have C2 := Lib.hid (show w.drew.cell? ⟨S, 2, none⟩ = some (.pointer (some ⟨T, 0, none⟩)) from c2)
  have HV := Lib.hid hv
  have H0 := Lib.hid hdr
  clear h hdr c2 hv hp
  go_enter Try.func23, Try.ntmps23
  go_wp2
  go_region_held3 (fun Y => Y.cell? ⟨S, 2, none⟩ = some (.pointer (some ⟨T, 0, none⟩))) (first | (with_reducible exact C2.out) | (with_reducible exact C3.out) | (with_reducible exact C4.out) | go_keep) (first
    | (go_at_call 25; (with_reducible refine (s_name _ k).mono ?_); rintro e w1 ⟨rfl, hb1⟩
       have h1 := H0.out.chg (K.Chg.of_below (O := fun _ => False) hb1) (fun _ _ h => h)
       have c3 : w1.cell? ⟨S, 2, none⟩ = some (.pointer (some ⟨T, 0, none⟩)) := cell_of_row w1 S 2 _ _ (0, 0) h1.row
       have C3 := Lib.hid c3
       have HG := Lib.hid (tab_get0 w1 T Qt M seed n pr tr h1.tab k p b HV.out)
       have H1 := Lib.hid h1
       have B1 := Lib.hid hb1
       clear hb1 h1 c3)
    | (go_at_call 35; (with_reducible refine HG.out.mono ?_); rintro e w2 ⟨rfl, ht⟩
       obtain ⟨Qt', n', pr', hx2, hc2, hq2⟩ := H1.out.tabs ht
       have c4 : w2.cell? ⟨S, 2, none⟩ = some (.pointer (some ⟨T, 0, none⟩)) := cell_of_row w2 S 2 _ _ (0, 0) hx2.1
       have C4 := Lib.hid c4
       have X2 := Lib.hid hx2
       have K2 := Lib.hid hc2
       have Q2 := Lib.hid hq2
       clear ht hx2 hc2 hq2 c4))
  all_goals
    go_wp2
    go_ret2
    have hs1 : w.heap.size ≤ w1.heap.size := B1.out.size
    refine ⟨rfl, Qt', n', pr', ⟨X2.out.1, X2.out.2.1, X2.out.2.2, H0.out.si⟩, ((K.Chg.of_below (O := Hs.TF T Qt M) (w := w) ⟨B1.out.os, B1.out.tape, B1.out.output, B1.out.size, B1.out.block⟩).same K2.out), ?_⟩
    rcases Q2.out with h | h
    · exact .inl h
    · exact .inr (Nat.le_trans hs1 h)
end Go.Proofs.Ytihhkdcgnnfkkaa
