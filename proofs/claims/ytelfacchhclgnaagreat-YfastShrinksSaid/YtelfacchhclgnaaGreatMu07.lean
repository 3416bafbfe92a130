/- A chain whole: asking it; the texts walked. A chain changes: a new one, a link more, a link less; the texts walked. A chain changes: no room, a link dropped, all dropped; a nil chain; the texts walked. -/
import Derived.Test.YtelfacchhclgnaaGreatMu06
section
namespace Go.Proofs.YtelfacchhclgnaaGreat
set_option maxRecDepth 20000
open Go.RowKit
set_option linter.unusedSectionVars false
variable [Gh]
/-- Block C is a chain of these links. -/
structure CW (w : World) (C Q M lim : Nat) (An : Option Addr) (cn : Nat) (Af : Option Addr) (cf : Nat) (ns : List (Nd × Bool)) (fs : List Nat) (L : LL) : Prop where
  cb : Cb w C Q M (hd L (-1)) (lst (-1) L)
  po : Qo w Q M lim An cn Af cf ns fs
  seg : Seg ns (-1) L (-1)
  nod : (L.map (·.1)).Nodup
  cnt : ns.length - fs.length = L.length
  keys : ∀ x ∈ L, x.2 < 18446744073709551616
section
variable {w w' : World} {C Q M lim cn cf : Nat} {An Af : Option Addr} {ns : List (Nd × Bool)} {fs : List Nat} {L : LL}
theorem CW.chg {O : Nat → Prop} (h : CW w C Q M lim An cn Af cf ns fs L) (b : K.Chg w w' O) (hO : ∀ j, CB C Q An Af j → ¬ O j) : CW w' C Q M lim An cn Af cf ns fs L :=
  ⟨h.cb.chg b (hO C (.inl rfl)), h.po.chg b (fun j hj => hO j (.inr hj)), h.seg, h.nod, h.cnt, h.keys⟩
theorem CW.lt (h : CW w C Q M lim An cn Af cf ns fs L) {j : Nat} (hj : CB C Q An Af j) : j < w.heap.size := by
  rcases hj with rfl | hj
  · exact h.cb.lt
  · exact h.po.qb hj
theorem CW.ne_m (h : CW w C Q M lim An cn Af cf ns fs L) {tk : Nat} (hm : Mx w M tk) : ¬ CB C Q An Af M := by
  obtain ⟨r, c, s, p, _, hr, _⟩ := hm
  rintro (e | e | e | e)
  · exact row_ne hr h.cb.row (by decide) e
  · exact row_ne hr h.po.row (by decide) e
  · obtain ⟨_, cur, hc⟩ := own_block_lt h.po.nodes e
    exact row_ne hc hr (by decide) rfl
  · obtain ⟨_, cur, hc⟩ := own_block_lt h.po.freed e
    exact row_ne hc hr (by decide) rfl
theorem CW.len (h : CW w C Q M lim An cn Af cf ns fs L) : L.length ≤ lim ∧ lim ≤ 1048576 := by
  have := h.cnt
  have := h.po.ns_le
  exact ⟨by omega, h.po.lim_le⟩
/-- A link that stands there. -/
theorem CW.at (h : CW w C Q M lim An cn Af cf ns fs L) {L1 L2 : LL} {n k : Nat} (e : L = L1 ++ (n, k) :: L2) : ∃ hn : n < ns.length, ns[n] = (⟨k, lst (-1) L1, hd L2 (-1)⟩, true) := by
  have h1 := seg_at (e ▸ h.seg)
  obtain ⟨hn, h2⟩ := List.getElem?_eq_some_iff.1 h1
  exact ⟨hn, h2⟩
end
/-- What a call that changes a chain leaves, told by its links. -/
def CWS (w : World) (C Q M lim : Nat) (An Af : Option Addr) (L' : LL) (w' : World) : Prop :=
  ∃ An' cn' Af' cf' ns' fs', CW w' C Q M lim An' cn' Af' cf' ns' fs' L' ∧ K.Chg w w' (CB C Q An Af) ∧ ∀ j, QB Q An' Af' j → QB Q An Af j ∨ w.heap.size ≤ j
section
variable (w : World) (C Q M lim cn cf : Nat) (fi la : Int) (An Af : Option Addr) (ns : List (Nd × Bool)) (fs : List Nat)
theorem c_len (L : LL) (h : CW w C Q M lim An cn Af cf ns fs L) : Calls Tryz.prog 74 #[.pointer (some ⟨C, 0, none⟩)] w fun e w' => e = .returned (.int .i64 (L.length : Int)) ∧ ∃ n, w' = w.drewN n := by
  have h1 := h.cb.c1
  have hq := Lib.hid (q_len w Q M lim cn cf An Af ns fs h.po)
  rw [h.cnt] at hq
  clear h
  go_enter Tryz.func74, Tryz.ntmps74
  go_wp2_with (go_at_call 107; (with_reducible refine hq.out.mono ?_); rintro e w1 ⟨rfl, N, rfl⟩)
  go_ret
  exact ⟨rfl, _, rfl⟩
set_option maxHeartbeats 1000000 in
theorem c_at_yes (h : Cb w C Q M fi la) (a : Qo w Q M lim An cn Af cf ns fs) (k : Nat) (hk : k < ns.length) (key : Nat) (ah be : Int) (hx : ns[k] = (⟨key, ah, be⟩, true)) (tk : Nat) (hM : Mx w M tk) (htk : tk < 1000000) :
    Calls Tryz.prog 157 #[.pointer (some ⟨C, 0, none⟩), .int .i64 (k : Int)] w (AtP w M (tk + 1) (ndv key ah be) true) := by
  have hb : Below w.heap.size w (w.alloc ndzo) := (Below.refl _ w).alloc (Nat.le_refl _) _
  have a1 := a.chg (K.Chg.of_below (O := fun _ => False) hb) (fun _ _ h => h)
  have h1 := h.chg (K.Chg.of_below (O := fun _ => False) hb) (fun h => h)
  have m1 := hM.chg (K.Chg.of_below (O := fun _ => False) hb) (fun h => h)
  have hml := hM.lt
  have hq := q_at_yes _ Q M lim cn cf An Af ns fs a1 k hk (by rw [hx]) tk m1 htk
  rw [hx] at hq
  have hq : Hid (Calls _ _ _ _ (AtP (w.alloc ndzo) M (tk + 1) (ndv key ah be) true)) := hq
  have c1 := h1.c1
  have HB := Lib.hid hb
  have hz1 : (w.alloc ndzo).heap.size = w.heap.size + 1 := by simp
  have HZ := Lib.hid hz1
  clear h a a1 h1 hx hM m1 hb hz1
  go_enter Tryz.func157, Tryz.ntmps157
  go_wp2_with (go_at_call 174; (with_reducible refine hq.out.mono ?_); rintro e w1 ⟨rfl, hm1, hc1⟩
               have zz := (hc1.block w.heap.size (by rw [HZ.out]; omega) (by omega)).trans (K.alloc_top _ _)
               have f0 := frozen_of_row _ _ 0 _ _ zz
               have f1 := frozen_of_row _ _ 1 _ _ zz
               have f2 := frozen_of_row _ _ 2 _ _ zz
               obtain ⟨t0, t1, t2⟩ := nd_cells zz
               have ZZ := Lib.hid zz
               have HM1 := Lib.hid hm1
               have HC1 := Lib.hid hc1
               clear hm1 hc1 zz)
  refine bodyPost_ret (nd_res rfl _ _ w.heap.size _ _ _ _ rfl (row_z5 ZZ.out _ _ _) rfl) rfl ?_
  have h5 : ∀ a b c, K.Chg w1 _ (fun j => j = w.heap.size) := fun a b c => chg_five w1 w.heap.size 0 1 2 a b c _ rfl
  have hch : K.Chg w w1 (· = M) := (K.Chg.of_below (O := (· = M)) HB.out).same HC1.out
  exact ⟨rfl, HM1.out.chg (h5 _ _ _) (by omega), hch.trans (h5 _ _ _) (fun j hj => .inr (by omega))⟩
theorem c_at_no (h : Cb w C Q M fi la) (a : Qo w Q M lim An cn Af cf ns fs) (i : Int) (hi : lvq ns i = false) :
    Calls Tryz.prog 157 #[.pointer (some ⟨C, 0, none⟩), .int .i64 i] w (PeekP w ndzv false) := by
  have hb : Below w.heap.size w (w.alloc ndzo) := (Below.refl _ w).alloc (Nat.le_refl _) _
  have a1 := a.chg (K.Chg.of_below (O := fun _ => False) hb) (fun _ _ h => h)
  have h1 := h.chg (K.Chg.of_below (O := fun _ => False) hb) (fun h => h)
  have hq := Lib.hid (q_at_no _ Q M lim cn cf An Af ns fs a1 i hi)
  have c1 := h1.c1
  have HB := Lib.hid hb
  have hz1 : (w.alloc ndzo).heap.size = w.heap.size + 1 := by simp
  have HZ := Lib.hid hz1
  clear h a a1 h1 hi hb hz1
  go_enter Tryz.func157, Tryz.ntmps157
  go_wp2_with (go_at_call 174; (with_reducible refine hq.out.mono ?_); rintro e w1 ⟨rfl, hb1⟩
               have zz := (hb1.block w.heap.size (by rw [HZ.out]; omega)).trans (K.alloc_top _ _)
               have f0 := frozen_of_row _ _ 0 _ _ zz
               have f1 := frozen_of_row _ _ 1 _ _ zz
               have f2 := frozen_of_row _ _ 2 _ _ zz
               obtain ⟨t0, t1, t2⟩ := nd_cells zz
               have ZZ := Lib.hid zz
               have HB1 := Lib.hid hb1
               clear hb1 zz)
  refine bodyPost_ret (nd_res rfl _ _ w.heap.size _ _ _ _ rfl (row_z5 ZZ.out _ _ _) rfl) rfl ⟨rfl, ?_⟩
  have h1 : Below w.heap.size w w1 := HB.out.trans (HB1.out.mono (by rw [HZ.out]; omega))
  exact ((h1.setCell (by simp) _).setCell (by simp) _).setCell (by simp) _
theorem c_key_no (h : Cb w C Q M fi la) (a : Qo w Q M lim An cn Af cf ns fs) (i : Int) (hi : lvq ns i = false) :
    Calls Tryz.prog 142 #[.pointer (some ⟨C, 0, none⟩), .int .i64 i] w fun e w' => e = .returned (.tuple #[.int .u64 0, .bool false]) ∧ Below w.heap.size w w' := by
  have hq := Lib.hid (c_at_no w C Q M lim cn cf fi la An Af ns fs h a i hi)
  clear h a hi
  go_enter Tryz.func142, Tryz.ntmps142
  go_wp2_with (go_at_call 157; (with_reducible refine hq.out.mono ?_); rintro e w1 ⟨rfl, hb1⟩; have HB1 := Lib.hid hb1; clear hb1)
  go_ret2
  exact ⟨rfl, HB1.out.alloc HB1.out.size _⟩
theorem c_key_yes (h : Cb w C Q M fi la) (a : Qo w Q M lim An cn Af cf ns fs) (k : Nat) (hk : k < ns.length) (key : Nat) (ah be : Int) (hx : ns[k] = (⟨key, ah, be⟩, true)) (tk : Nat) (hM : Mx w M tk) (htk : tk < 1000000) :
    Calls Tryz.prog 142 #[.pointer (some ⟨C, 0, none⟩), .int .i64 (k : Int)] w fun e w' => e = .returned (.tuple #[.int .u64 (key : Int), .bool true]) ∧ Mx w' M (tk + 1) ∧ K.Chg w w' (· = M) := by
  have hq := Lib.hid (c_at_yes w C Q M lim cn cf fi la An Af ns fs h a k hk key ah be hx tk hM htk)
  clear h a hx hM
  go_enter Tryz.func142, Tryz.ntmps142
  go_wp2_with (go_at_call 157; (with_reducible refine hq.out.mono ?_); rintro e w1 ⟨rfl, hm1, hc1⟩; have HM1 := Lib.hid hm1; have HC1 := Lib.hid hc1; clear hm1 hc1)
  go_ret2
  exact ⟨rfl, HM1.out.chg (chg_alloc _ _ (fun _ => False)) (fun h => h), HC1.out.same (chg_alloc _ _ _)⟩
theorem c_next_yes (h : Cb w C Q M fi la) (a : Qo w Q M lim An cn Af cf ns fs) (k : Nat) (hk : k < ns.length) (key : Nat) (ah be : Int) (hx : ns[k] = (⟨key, ah, be⟩, true)) (tk : Nat) (hM : Mx w M tk) (htk : tk < 1000000) :
    Calls Tryz.prog 150 #[.pointer (some ⟨C, 0, none⟩), .int .i64 (k : Int)] w fun e w' => e = .returned (.int .i64 be) ∧ Mx w' M (tk + 1) ∧ K.Chg w w' (· = M) := by
  have hq := Lib.hid (c_at_yes w C Q M lim cn cf fi la An Af ns fs h a k hk key ah be hx tk hM htk)
  clear h a hx hM
  go_enter Tryz.func150, Tryz.ntmps150
  go_wp2_with (go_at_call 157; (with_reducible refine hq.out.mono ?_); rintro e w1 ⟨rfl, hm1, hc1⟩; have HM1 := Lib.hid hm1; have HC1 := Lib.hid hc1; clear hm1 hc1)
  go_ret
  exact ⟨rfl, HM1.out.chg (chg_alloc _ _ (fun _ => False)) (fun h => h), HC1.out.same (chg_alloc _ _ _)⟩
theorem c_prev_yes (h : Cb w C Q M fi la) (a : Qo w Q M lim An cn Af cf ns fs) (k : Nat) (hk : k < ns.length) (key : Nat) (ah be : Int) (hx : ns[k] = (⟨key, ah, be⟩, true)) (tk : Nat) (hM : Mx w M tk) (htk : tk < 1000000) :
    Calls Tryz.prog 144 #[.pointer (some ⟨C, 0, none⟩), .int .i64 (k : Int)] w fun e w' => e = .returned (.int .i64 ah) ∧ Mx w' M (tk + 1) ∧ K.Chg w w' (· = M) := by
  have hq := Lib.hid (c_at_yes w C Q M lim cn cf fi la An Af ns fs h a k hk key ah be hx tk hM htk)
  clear h a hx hM
  go_enter Tryz.func144, Tryz.ntmps144
  go_wp2_with (go_at_call 157; (with_reducible refine hq.out.mono ?_); rintro e w1 ⟨rfl, hm1, hc1⟩; have HM1 := Lib.hid hm1; have HC1 := Lib.hid hc1; clear hm1 hc1)
  go_ret
  exact ⟨rfl, HM1.out.chg (chg_alloc _ _ (fun _ => False)) (fun h => h), HC1.out.same (chg_alloc _ _ _)⟩
end
end Go.Proofs.YtelfacchhclgnaaGreat
end
section
namespace Go.Proofs.YtelfacchhclgnaaGreat
set_option maxRecDepth 20000
open Go.RowKit
set_option linter.unusedSectionVars false
variable [Gh]
theorem q_new (w : World) (lim : Nat) (hlim : lim ≤ 1048576) (hgh : Gh.r0 = 0 ∧ Gh.c0 = 0) :
    Calls Tryz.prog 106 #[.pointer none, .int .i64 (lim : Int)] w fun e w' => ∃ Q m0, e = .returned (.tuple #[.pointer (some ⟨Q, 0, none⟩), .int .i64 0]) ∧ Qo w' Q m0 lim none 0 none 0 [] [] ∧ Mx w' m0 0 ∧ w.heap.size ≤ Q ∧ w.heap.size ≤ m0 ∧ Below w.heap.size w w' := by
  have g0 : decide ((lim : Int) < 0) = false := decide_eq_false (by omega)
  have g1 : decide (1048576 < (lim : Int)) = false := decide_eq_false (by omega)
  have g2 : decide (1048576 < lim) = false := decide_eq_false (by omega)
  go_enter Tryz.func106, Tryz.ntmps106
  go_wp2_with (go_at_call 67; (with_reducible refine (x_new _ hgh).mono ?_); rintro e w1 ⟨rfl, hm, hb1⟩; have hmH := Lib.hid hm; clear hm; have hbH := Lib.hid hb1; clear hb1)
  go_ret2
  have hlt := hmH.out.lt
  have hs := hbH.out.size
  refine ⟨_, _, rfl, ⟨K.alloc_top _ _, World.ownsRow_nil _ _ _ _, World.ownsRow_nil _ _ _ _, by simp, by simp, hlim, by simp, by simp⟩, hmH.out.chg (chg_alloc _ _ (fun _ => False)) (fun h => h), hs, Nat.le_refl _, hbH.out.alloc hs _⟩
theorem c_new (w : World) (lim : Nat) (hlim : lim ≤ 1048576) (hgh : Gh.r0 = 0 ∧ Gh.c0 = 0) :
    Calls Tryz.prog 66 #[.pointer none, .int .i64 (lim : Int)] w fun e w' => ∃ C Q M, e = .returned (.tuple #[.pointer (some ⟨C, 0, none⟩), .int .i64 0]) ∧ CW w' C Q M lim none 0 none 0 [] [] [] ∧ Mx w' M 0 ∧ w.heap.size ≤ C ∧ w.heap.size ≤ Q ∧ w.heap.size ≤ M ∧ Below w.heap.size w w' := by
  have hq := Lib.hid (q_new w lim hlim hgh)
  go_enter Tryz.func66, Tryz.ntmps66
  go_wp2_with (go_at_call 106; (with_reducible refine hq.out.mono ?_); rintro e w1 ⟨Q, m0, rfl, hQ, hM, hq1, hq2, hb1⟩
               have HQ := Lib.hid hQ
               have HM := Lib.hid hM
               have HB := Lib.hid hb1
               have c0 := hQ.c0
               clear hQ hM hb1)
  go_ret2
  have hc := chg_alloc w1 (.cells #[.pointer (some ⟨m0, 0, none⟩), .pointer (some ⟨Q, 0, none⟩), .int .i64 (-1), .int .i64 (-1)] 112) (fun _ => False)
  refine ⟨w1.heap.size, Q, m0, rfl, ⟨⟨K.alloc_top _ _⟩, HQ.out.chg hc (fun _ _ h => h), trivial, by simp, by simp, by simp⟩, HM.out.chg hc (fun h => h), HB.out.size, hq1, hq2, HB.out.alloc HB.out.size _⟩
/-- What Behind leaves. -/
def BehP (w : World) (C Q M lim : Nat) (An Af : Option Addr) (ns : List (Nd × Bool)) (fs : List Nat) (L1 L2 : LL) (k : Nat) (e : Ending) (w' : World) : Prop :=
  ∃ n : Nat, e = .returned (.tuple #[.int .i64 (n : Int), .bool true]) ∧ (∀ x ∈ L1 ++ L2, x.1 ≠ n) ∧ (fs = [] → n = ns.length) ∧ n < 1048576 ∧ ∃ An' cn' Af' cf' ns' fs', CW w' C Q M lim An' cn' Af' cf' ns' fs' (L1 ++ (n, k) :: L2) ∧ K.Chg w w' (CB C Q An Af) ∧ (∀ j, QB Q An' Af' j → QB Q An Af j ∨ w.heap.size ≤ j) ∧ (fs = [] → fs' = [] ∧ ns'.length = ns.length + 1)
theorem nod_more {L1 L2 : LL} {n k : Nat} (hn : ((L1 ++ L2).map (·.1)).Nodup) (hx : ∀ x ∈ L1 ++ L2, x.1 ≠ n) : ((L1 ++ (n, k) :: L2).map (·.1)).Nodup := by
  have hp : (L1 ++ (n, k) :: L2).Perm ((n, k) :: (L1 ++ L2)) := List.perm_middle
  rw [(hp.map (·.1)).nodup_iff, List.map_cons, List.nodup_cons]
  exact ⟨fun h => by obtain ⟨x, hx2, e⟩ := List.mem_map.1 h; exact hx x hx2 e, hn⟩
theorem nod_less {L1 L2 : LL} {n k : Nat} (hn : ((L1 ++ (n, k) :: L2).map (·.1)).Nodup) : ((L1 ++ L2).map (·.1)).Nodup ∧ ∀ x ∈ L1 ++ L2, x.1 ≠ n := by
  have hp : (L1 ++ (n, k) :: L2).Perm ((n, k) :: (L1 ++ L2)) := List.perm_middle
  rw [(hp.map (·.1)).nodup_iff, List.map_cons, List.nodup_cons] at hn
  exact ⟨hn.2, fun x hx e => hn.1 (List.mem_map.2 ⟨x, hx, e⟩)⟩
theorem more_ends {ns2 : List (Nd × Bool)} {L1 L2 : LL} {n k : Nat} (h : Seg ns2 (-1) (L1 ++ L2) (-1)) (h2 : lvq ns2 (n : Int) = true) :
    (if lvq ns2 n then (if lvq ns2 (lst (-1) L1) then hd (L1 ++ L2) (-1) else (n : Int)) else hd L2 (-1)) = hd (L1 ++ (n, k) :: L2) (-1) ∧
    (if lvq ns2 (hd L2 (-1)) then (if lvq ns2 n then lst (-1) (L1 ++ L2) else lst (-1) L1) else (n : Int)) = lst (-1) (L1 ++ (n, k) :: L2) := by
  obtain ⟨h3, h4⟩ := seg_app.1 h
  rw [lvq_lst h3, lvq_hd h4, h2, if_pos rfl, if_pos rfl]
  constructor
  · cases L1 <;> rfl
  · rw [lst_app, lst_app]
    cases L2 <;> rfl
theorem less_ends {ns2 : List (Nd × Bool)} {L1 L2 : LL} {n k : Nat} {c d : Int} (h3 : Seg ns2 (-1) L1 c) (h4 : Seg ns2 d L2 (-1)) :
    (if lvq ns2 (lst (-1) L1) then hd (L1 ++ (n, k) :: L2) (-1) else hd L2 (-1)) = hd (L1 ++ L2) (-1) ∧ (if lvq ns2 (hd L2 (-1)) then lst (-1) (L1 ++ (n, k) :: L2) else lst (-1) L1) = lst (-1) (L1 ++ L2) := by
  rw [lvq_lst h3, lvq_hd h4]
  constructor
  · cases L1 <;> rfl
  · rw [lst_app, lst_app]
    cases L2 <;> rfl
/-- Two joins behind an Alloc. -/
theorem beh_fin {w w3 w4 w5 : World} {C Q M lim cn cf : Nat} {An Af : Option Addr} {ns : List (Nd × Bool)} {fs : List Nat} {L1 L2 : LL} {An2 Af2 An3 Af3 : Option Addr} {cn2 cf2 n k : Nat} {nd : Nd} {ns2 : List (Nd × Bool)} {fs2 : List Nat}
    {a b : Int} (ha : lst (-1) L1 = a) (hb : hd L2 (-1) = b) (h : CW w C Q M lim An cn Af cf ns fs (L1 ++ L2)) (hk : k < 18446744073709551616) (q2 : Qo w3 Q M lim An2 cn2 Af2 cf2 ns2 fs2) (g3 : K.Chg w w3 (QB Q An Af)) (i2 : ∀ j, QB Q An2 Af2 j → QB Q An Af j ∨ w.heap.size ≤ j)
    (hf : (∃ h : n < ns.length, ns[n].2 = false) ∨ ns.length ≤ n) (hn2 : ns2[n]? = some (nd, true)) (hnk : nd.key = k) (hfr : ∀ j, j ≠ n → ns2[j]? = ns[j]?) (hc : ns2.length - fs2.length = ns.length - fs.length + 1) (hp : fs = [] → n = ns.length ∧ fs2 = [] ∧ ns2.length = ns.length + 1)
    (g4 : K.Chg w3 w4 (CB C Q An2 Af2)) (i3 : ∀ j, QB Q An3 Af3 j → QB Q An2 Af2 j ∨ w3.heap.size ≤ j)
    (s5 : CStep w4 C Q M lim An3 Af3 (if lvq (seta (setb ns2 (a) n) n (a)) (n : Int) then (if lvq ns2 (a) then hd (L1 ++ L2) (-1) else (n : Int)) else b)
      (if lvq (seta (setb ns2 (a) n) n (a)) (b) then (if lvq ns2 n then lst (-1) (L1 ++ L2) else a) else (n : Int)) (seta (setb (seta (setb ns2 (a) n) n (a)) n (b)) (b) n) fs2 w5) :
    BehP w C Q M lim An Af ns fs L1 L2 k (.returned (.tuple #[.int .i64 (n : Int), .bool true])) w5 := by
  subst ha hb
  have hx : ∀ x ∈ L1 ++ L2, x.1 ≠ n := by
    intro x hx e
    obtain ⟨nd', h1, _⟩ := seg_live h.seg hx
    rw [e] at h1
    rcases hf with ⟨h2, h3⟩ | h2
    · rw [List.getElem?_eq_getElem h2] at h1
      simp at h1
      rw [h1] at h3
      cases h3
    · rw [List.getElem?_eq_none h2] at h1
      cases h1
  have hseg2 : Seg ns2 (-1) (L1 ++ L2) (-1) := seg_frame h.seg (fun x hm => hfr _ (hx x hm))
  have hlv : lvq ns2 (n : Int) = true := lvq_some hn2
  obtain ⟨e1, e2⟩ := more_ends (k := k) hseg2 hlv
  simp only [lvq_seta, lvq_setb] at s5
  rw [e1, e2] at s5
  obtain ⟨An', cn', Af', cf', hcb, hqo, g5, i5⟩ := s5
  have hn : n < ns2.length := (List.getElem?_eq_some_iff.1 hn2).1
  have hle := q2.ns_le
  have hli := q2.lim_le
  have z3 := g3.size
  have z4 := g4.size
  refine ⟨n, rfl, hx, fun e => (hp e).1, by omega, An', cn', Af', cf', _, fs2, ⟨hcb, hqo, seg_more h.seg h.nod hx hn2 hnk hfr, nod_more h.nod hx, ?_, ?_⟩, ?_, ?_, fun e => ?_⟩
  · rw [seta_len, setb_len, seta_len, setb_len, hc, h.cnt]
    simp
    omega
  · intro x hx
    have hp : (L1 ++ (n, k) :: L2).Perm ((n, k) :: (L1 ++ L2)) := List.perm_middle
    rcases List.mem_cons.1 (hp.mem_iff.1 hx) with rfl | hm
    · exact hk
    · exact h.keys x hm
  · refine ((g3.mono (O' := CB C Q An Af) (fun j hj => .inr hj)).trans g4 (fun j hj => ?_)).trans g5 (fun j hj => ?_)
    · rcases hj with rfl | hj
      · exact .inl (.inl rfl)
      · rcases i2 j hj with h | h
        · exact .inl (.inr h)
        · exact .inr h
    · rcases hj with rfl | hj
      · exact .inl (.inl rfl)
      · rcases i3 j hj with hj | hj
        · rcases i2 j hj with h | h
          · exact .inl (.inr h)
          · exact .inr h
        · exact .inr (by omega)
  · intro j hj
    rcases i5 j hj with hj | hj
    · rcases i3 j hj with hj | hj
      · exact i2 j hj
      · exact .inr (by omega)
    · exact .inr (by omega)
  · rw [seta_len, setb_len, seta_len, setb_len]
    exact ⟨(hp e).2.1, (hp e).2.2⟩
section
variable (w : World) (C Q M lim cn cf : Nat) (An Af : Option Addr) (ns : List (Nd × Bool)) (fs : List Nat)
set_option maxHeartbeats 2000000 in
theorem c_behind_a (i : Int) (hi : i < 0) (L2 : LL) (h : CW w C Q M lim An cn Af cf ns fs ([] ++ L2)) (k : Nat) (hk : k < 18446744073709551616) (hr : ([] ++ L2 : LL).length < lim) :
    Calls Tryz.prog 149 #[.pointer (some ⟨C, 0, none⟩), .int .i64 i, .int .u64 (k : Int)] w (BehP w C Q M lim An Af ns fs [] L2 k) := by
  have hH := Lib.hid h
  have hro : Hid (ns.length - fs.length < lim) := by
    show ns.length - fs.length < lim
    rw [h.cnt]
    exact hr
  have c1 := h.cb.c1
  have c2 := h.cb.c2
  have hClt := h.cb.lt
  have HK := Lib.hid hk
  have g0 : decide (0 ≤ i) = false := decide_eq_false (by omega)
  have ea : lst (-1) ([] : LL) = -1 := rfl
  have HEA := Lib.hid ea
  generalize hfi : hd ([] ++ L2) (-1) = fi at *
  have hfi2 : hd L2 (-1) = fi := hfi
  have HF := Lib.hid hfi2
  clear h hk hr ea hfi hfi2
  go_enter Tryz.func149, Tryz.ntmps149
  go_wp2
  go_quiet (fail)
  obtain ⟨W, hW⟩ : ∃ W, w.drewN nq = W := ⟨_, rfl⟩
  rw [hW]
  have hbW : K.Chg w W (fun _ => False) := by rw [← hW]; exact (chg_refl w _).drewN _
  clear hW
  have c1W : W.cell? ⟨C, 1, none⟩ = some (.pointer (some ⟨Q, 0, none⟩)) := (hbW.cell hClt (fun h => h) 1).trans c1
  obtain ⟨n, ns2, fs2, hn, hfree, hget, hfrm, hcnt, hpe, hcall⟩ := q_alloc W Q M lim cn cf An Af ns fs (hH.out.po.chg hbW (fun _ _ h => h)) k 0 0 hro.out
  have HCALL := Lib.hid hcall
  have HX := Lib.hid (And.intro hfree (And.intro hget (And.intro hfrm (And.intro hcnt hpe))))
  have hCb := Lib.hid (hH.out.cb.chg hbW (fun h => h))
  have HBW := Lib.hid hbW
  clear hn hfree hget hfrm hcnt hpe hcall hbW
  go_wp2_with (first
    | (go_at_call 160; (with_reducible refine HCALL.out.mono ?_); rintro e w3 ⟨rfl, An2, cn2, Af2, cf2, hq2, hc3, hi3⟩
       have HCB3 := Lib.hid (hCb.out.chg hc3 (hH.out.cb.qb hH.out.po))
       have HQ2 := Lib.hid hq2
       have HC3 := Lib.hid hc3
       have HI3 := Lib.hid hi3
       clear hq2 hc3 hi3)
    | (go_at_call 161; (with_reducible refine (c_join w3 C Q M lim cn2 cf2 _ _ An2 Af2 ns2 fs2 HCB3.out HQ2.out (-1) n).mono ?_); rintro e w4 ⟨rfl, An3, cn3, Af3, cf3, hcb4, hq4, hc4, hi4⟩
       have HCB4 := Lib.hid hcb4
       have HQ4 := Lib.hid hq4
       have HC4 := Lib.hid hc4
       have HI4 := Lib.hid hi4
       clear hcb4 hq4 hc4 hi4)
    | (go_at_call 161; (with_reducible refine (c_join w4 C Q M lim cn3 cf3 _ _ An3 Af3 _ fs2 HCB4.out HQ4.out n fi).mono ?_); rintro e w5 ⟨rfl, hs5⟩
       have HS5 := Lib.hid hs5
       clear hs5))
  go_ret2
  have hz := HBW.out.size
  exact beh_fin HEA.out HF.out hH.out HK.out HQ2.out ((HBW.out.mono (fun _ h => h.elim)).same HC3.out) (fun j hj => (HI3.out j hj).imp id (fun h => by omega)) HX.out.1 HX.out.2.1 rfl HX.out.2.2.1 HX.out.2.2.2.1 HX.out.2.2.2.2 HC4.out HI4.out HS5.out
set_option maxHeartbeats 2000000 in
theorem c_behind_b (x y : Nat) (L1 L2 : LL) (h : CW w C Q M lim An cn Af cf ns fs ((L1 ++ [(x, y)]) ++ L2)) (k : Nat) (hk : k < 18446744073709551616) (hr : ((L1 ++ [(x, y)]) ++ L2 : LL).length < lim) :
    Calls Tryz.prog 149 #[.pointer (some ⟨C, 0, none⟩), .int .i64 (x : Int), .int .u64 (k : Int)] w (BehP w C Q M lim An Af ns fs (L1 ++ [(x, y)]) L2 k) := by
  have hH := Lib.hid h
  have hro : Hid (ns.length - fs.length < lim) := by
    show ns.length - fs.length < lim
    rw [h.cnt]
    exact hr
  have c1 := h.cb.c1
  have c2 := h.cb.c2
  have hClt := h.cb.lt
  have HK := Lib.hid hk
  have g0 : decide (0 ≤ (x : Int)) = true := decide_eq_true (by omega)
  have e0 : (L1 ++ [(x, y)]) ++ L2 = L1 ++ (x, y) :: L2 := by simp
  obtain ⟨hx, hnx⟩ := h.at e0
  have hq : ∀ N, Calls _ _ _ (w.drewN N) (PeekP (w.drewN N) (ndv y (lst (-1) L1) (hd L2 (-1))) true) := fun N => by
    have hq := q_peek_yes (w.drewN N) Q M lim cn cf An Af ns fs (h.po.drew N) x hx (by rw [hnx])
    rw [hnx] at hq
    exact hq
  have ea : lst (-1) (L1 ++ [(x, y)]) = (x : Int) := by rw [lst_app]; rfl
  have HEA := Lib.hid ea
  generalize hfi : hd L2 (-1) = fi at *
  have HF := Lib.hid hfi
  generalize hd ((L1 ++ [(x, y)]) ++ L2) (-1) = ff at c2
  generalize lst (-1) L1 = l1 at *
  clear h hk hr ea hnx hfi e0
  go_enter Tryz.func149, Tryz.ntmps149
  go_wp2
  go_quiet (fail)
  obtain ⟨W0, hW0⟩ : ∃ W0, w.drewN nq = W0 := ⟨_, rfl⟩
  rw [hW0]
  have hb0 : K.Chg w W0 (fun _ => False) := by rw [← hW0]; exact (chg_refl w _).drewN _
  have hq0 : Hid (Calls _ _ _ W0 (PeekP W0 (ndv y l1 fi) true)) := Lib.hid (by rw [← hW0]; exact hq _)
  have c10 : W0.cell? ⟨C, 1, none⟩ = some (.pointer (some ⟨Q, 0, none⟩)) := (hb0.cell hClt (fun h => h) 1).trans c1
  have HB0 := Lib.hid hb0
  clear hW0 hb0 hq
  go_wp2_with (go_at_call 141; (with_reducible refine hq0.out.mono ?_); rintro e w1 ⟨rfl, hb1⟩; have HB1 := Lib.hid hb1; have hs1 := hb1.size; clear hb1)
  go_quiet (fail)
  obtain ⟨W, hW⟩ : ∃ W, (w1.alloc (ndo y l1 fi)).drewN nq = W := ⟨_, rfl⟩
  rw [hW]
  have hbW : K.Chg w W (fun _ => False) := by rw [← hW]; exact (HB0.out.same (K.Chg.of_below (HB1.out.alloc hs1 _))).drewN _
  clear hW c10
  have c1W : W.cell? ⟨C, 1, none⟩ = some (.pointer (some ⟨Q, 0, none⟩)) := (hbW.cell hClt (fun h => h) 1).trans c1
  obtain ⟨n, ns2, fs2, hn, hfree, hget, hfrm, hcnt, hpe, hcall⟩ := q_alloc W Q M lim cn cf An Af ns fs (hH.out.po.chg hbW (fun _ _ h => h)) k 0 0 hro.out
  have HCALL := Lib.hid hcall
  have HX := Lib.hid (And.intro hfree (And.intro hget (And.intro hfrm (And.intro hcnt hpe))))
  have hCb := Lib.hid (hH.out.cb.chg hbW (fun h => h))
  have HBW := Lib.hid hbW
  clear hn hfree hget hfrm hcnt hpe hcall hbW
  go_wp2_with (first
    | (go_at_call 160; (with_reducible refine HCALL.out.mono ?_); rintro e w3 ⟨rfl, An2, cn2, Af2, cf2, hq2, hc3, hi3⟩
       have HCB3 := Lib.hid (hCb.out.chg hc3 (hH.out.cb.qb hH.out.po))
       have HQ2 := Lib.hid hq2
       have HC3 := Lib.hid hc3
       have HI3 := Lib.hid hi3
       clear hq2 hc3 hi3)
    | (go_at_call 161; (with_reducible refine (c_join w3 C Q M lim cn2 cf2 _ _ An2 Af2 ns2 fs2 HCB3.out HQ2.out (x : Int) n).mono ?_); rintro e w4 ⟨rfl, An3, cn3, Af3, cf3, hcb4, hq4, hc4, hi4⟩
       have HCB4 := Lib.hid hcb4
       have HQ4 := Lib.hid hq4
       have HC4 := Lib.hid hc4
       have HI4 := Lib.hid hi4
       clear hcb4 hq4 hc4 hi4)
    | (go_at_call 161; (with_reducible refine (c_join w4 C Q M lim cn3 cf3 _ _ An3 Af3 _ fs2 HCB4.out HQ4.out n fi).mono ?_); rintro e w5 ⟨rfl, hs5⟩
       have HS5 := Lib.hid hs5
       clear hs5))
  go_ret2
  have hz := HBW.out.size
  exact beh_fin HEA.out HF.out hH.out HK.out HQ2.out ((HBW.out.mono (fun _ h => h.elim)).same HC3.out) (fun j hj => (HI3.out j hj).imp id (fun h => by omega)) HX.out.1 HX.out.2.1 rfl HX.out.2.2.1 HX.out.2.2.2.1 HX.out.2.2.2.2 HC4.out HI4.out HS5.out
end
end Go.Proofs.YtelfacchhclgnaaGreat
end
section
namespace Go.Proofs.YtelfacchhclgnaaGreat
set_option maxRecDepth 20000
open Go.RowKit
set_option linter.unusedSectionVars false
variable [Gh]
section
variable (w : World) (C Q M lim cn cf : Nat) (An Af : Option Addr) (ns : List (Nd × Bool)) (fs : List Nat)
set_option maxHeartbeats 1000000 in
theorem c_behind_no_a (i : Int) (hi : i < 0) (L : LL) (h : CW w C Q M lim An cn Af cf ns fs L) (k : Nat) (hr : ¬ L.length < lim) :
    Calls Tryz.prog 149 #[.pointer (some ⟨C, 0, none⟩), .int .i64 i, .int .u64 (k : Int)] w fun e w' => e = .returned (.tuple #[.int .i64 0, .bool false]) ∧ K.Chg w w' (fun _ => False) := by
  have hH := Lib.hid h
  have hro : Hid (¬ ns.length - fs.length < lim) := by
    show ¬ ns.length - fs.length < lim
    rw [h.cnt]
    exact hr
  have c1 := h.cb.c1
  have c2 := h.cb.c2
  have hClt := h.cb.lt
  have g0 : decide (0 ≤ i) = false := decide_eq_false (by omega)
  generalize hd L (-1) = fi at *
  clear h hr
  go_enter Tryz.func149, Tryz.ntmps149
  go_wp2
  go_quiet (fail)
  obtain ⟨W, hW⟩ : ∃ W, w.drewN nq = W := ⟨_, rfl⟩
  rw [hW]
  have hbW : K.Chg w W (fun _ => False) := by rw [← hW]; exact (chg_refl w _).drewN _
  clear hW
  have c1W : W.cell? ⟨C, 1, none⟩ = some (.pointer (some ⟨Q, 0, none⟩)) := (hbW.cell hClt (fun h => h) 1).trans c1
  have hcall := Lib.hid (q_alloc_no W Q M lim cn cf An Af ns fs (hH.out.po.chg hbW (fun _ _ h => h)) k 0 0 hro.out)
  have HBW := Lib.hid hbW
  clear hbW
  go_wp2_with (go_at_call 160; (with_reducible refine hcall.out.mono ?_); rintro e w3 ⟨rfl, hb3⟩; have HB3 := Lib.hid hb3; clear hb3)
  go_ret2
  exact ⟨rfl, HBW.out.same (K.Chg.of_below HB3.out)⟩
set_option maxHeartbeats 1000000 in
theorem c_behind_no_b (x y : Nat) (L1 L2 : LL) (h : CW w C Q M lim An cn Af cf ns fs (L1 ++ (x, y) :: L2)) (k : Nat) (hr : ¬ (L1 ++ (x, y) :: L2).length < lim) :
    Calls Tryz.prog 149 #[.pointer (some ⟨C, 0, none⟩), .int .i64 (x : Int), .int .u64 (k : Int)] w fun e w' => e = .returned (.tuple #[.int .i64 0, .bool false]) ∧ K.Chg w w' (fun _ => False) := by
  have hH := Lib.hid h
  have hro : Hid (¬ ns.length - fs.length < lim) := by
    show ¬ ns.length - fs.length < lim
    rw [h.cnt]
    exact hr
  have c1 := h.cb.c1
  have c2 := h.cb.c2
  have hClt := h.cb.lt
  have g0 : decide (0 ≤ (x : Int)) = true := decide_eq_true (by omega)
  obtain ⟨hx, hnx⟩ := h.at rfl
  have hq : ∀ N, Calls _ _ _ (w.drewN N) (PeekP (w.drewN N) (ndv y (lst (-1) L1) (hd L2 (-1))) true) := fun N => by
    have hq := q_peek_yes (w.drewN N) Q M lim cn cf An Af ns fs (h.po.drew N) x hx (by rw [hnx])
    rw [hnx] at hq
    exact hq
  generalize hd L2 (-1) = fi at *
  generalize hd (L1 ++ (x, y) :: L2) (-1) = ff at c2
  generalize lst (-1) L1 = l1 at *
  clear h hr hnx
  go_enter Tryz.func149, Tryz.ntmps149
  go_wp2
  go_quiet (fail)
  obtain ⟨W0, hW0⟩ : ∃ W0, w.drewN nq = W0 := ⟨_, rfl⟩
  rw [hW0]
  have hb0 : K.Chg w W0 (fun _ => False) := by rw [← hW0]; exact (chg_refl w _).drewN _
  have hq0 : Hid (Calls _ _ _ W0 (PeekP W0 (ndv y l1 fi) true)) := Lib.hid (by rw [← hW0]; exact hq _)
  have c10 : W0.cell? ⟨C, 1, none⟩ = some (.pointer (some ⟨Q, 0, none⟩)) := (hb0.cell hClt (fun h => h) 1).trans c1
  have HB0 := Lib.hid hb0
  clear hW0 hb0 hq
  go_wp2_with (go_at_call 141; (with_reducible refine hq0.out.mono ?_); rintro e w1 ⟨rfl, hb1⟩; have HB1 := Lib.hid hb1; have hs1 := hb1.size; clear hb1)
  go_quiet (fail)
  obtain ⟨W, hW⟩ : ∃ W, (w1.alloc (ndo y l1 fi)).drewN nq = W := ⟨_, rfl⟩
  rw [hW]
  have hbW : K.Chg w W (fun _ => False) := by rw [← hW]; exact (HB0.out.same (K.Chg.of_below (HB1.out.alloc hs1 _))).drewN _
  clear hW c10
  have c1W : W.cell? ⟨C, 1, none⟩ = some (.pointer (some ⟨Q, 0, none⟩)) := (hbW.cell hClt (fun h => h) 1).trans c1
  have hcall := Lib.hid (q_alloc_no W Q M lim cn cf An Af ns fs (hH.out.po.chg hbW (fun _ _ h => h)) k 0 0 hro.out)
  have HBW := Lib.hid hbW
  clear hbW
  go_wp2_with (go_at_call 160; (with_reducible refine hcall.out.mono ?_); rintro e w3 ⟨rfl, hb3⟩; have HB3 := Lib.hid hb3; clear hb3)
  go_ret2
  exact ⟨rfl, HBW.out.same (K.Chg.of_below HB3.out)⟩
set_option maxHeartbeats 1000000 in
theorem c_drop (x y : Nat) (L1 L2 : LL) (h : CW w C Q M lim An cn Af cf ns fs (L1 ++ (x, y) :: L2)) :
    Calls Tryz.prog 155 #[.pointer (some ⟨C, 0, none⟩), .int .i64 (x : Int)] w fun e w' => e = .returned (.bool true) ∧ CWS w C Q M lim An Af (L1 ++ L2) w' := by
  have hH := Lib.hid h
  have c1 := h.cb.c1
  have hClt := h.cb.lt
  obtain ⟨hx, hnx⟩ := h.at rfl
  have hq := q_peek_yes w Q M lim cn cf An Af ns fs h.po x hx (by rw [hnx])
  rw [hnx] at hq
  have hq : Hid (Calls _ _ _ w (PeekP w (ndv y (lst (-1) L1) (hd L2 (-1))) true)) := hq
  have HX := Lib.hid hnx
  generalize hbe : hd L2 (-1) = be at *
  generalize hah : lst (-1) L1 = ah at *
  have HBE := Lib.hid hbe
  have HAH := Lib.hid hah
  clear h hnx hbe hah
  go_enter Tryz.func155, Tryz.ntmps155
  go_wp2_with (first
    | (go_at_call 141; (with_reducible refine hq.out.mono ?_); rintro e w1 ⟨rfl, hb1⟩
       have hs1 := hb1.size
       have hb2 : K.Chg w (w1.alloc (ndo y ah be)) (fun _ => False) := K.Chg.of_below (hb1.alloc hs1 _)
       have c10 : (w1.alloc (ndo y ah be)).cell? ⟨C, 1, none⟩ = some (.pointer (some ⟨Q, 0, none⟩)) := (hb2.cell hClt (fun h => h) 1).trans c1
       have HB2 := Lib.hid hb2
       have HR := Lib.hid (K.alloc_top w1 (ndo y ah be))
       clear hb1 hb2)
    | (go_at_call 173; (with_reducible refine (q_free (w1.alloc (ndo y ah be)) Q M lim cn cf An Af ns fs (hH.out.po.chg HB2.out (fun _ _ h => h)) x hx (by rw [HX.out])).mono ?_); rintro e w3 ⟨rfl, An2, cn2, Af2, cf2, hq2, hc3, hi3⟩
       have hcb3 := (hH.out.cb.chg HB2.out (fun h => h)).chg hc3 (hH.out.cb.qb hH.out.po)
       have hr3 := (hc3.block w1.heap.size (by simp) (fun hj => by have := hH.out.po.qb hj; omega)).trans HR.out
       obtain ⟨t0, t1, t2⟩ := nd_cells hr3
       have HCB3 := Lib.hid hcb3
       have HQ2 := Lib.hid hq2
       have HC3 := Lib.hid hc3
       have HI3 := Lib.hid hi3
       clear hq2 hc3 hi3 hcb3 hr3)
    | (go_at_call 161; (with_reducible refine (c_join w3 C Q M lim cn2 cf2 _ _ An2 Af2 _ _ HCB3.out HQ2.out ah be).mono ?_); rintro e w4 ⟨rfl, An3, cn3, Af3, cf3, hcb4, hq4, hc4, hi4⟩
       have HCB4 := Lib.hid hcb4
       have HQ4 := Lib.hid hq4
       have HC4 := Lib.hid hc4
       have HI4 := Lib.hid hi4
       clear hcb4 hq4 hc4 hi4))
  go_ret
  have hcb := HCB4.out
  have hqo := HQ4.out
  have hc4 := HC4.out
  have hi4 := HI4.out
  obtain rfl := HBE.out
  obtain rfl := HAH.out
  have hz2 := HB2.out.size
  have hz3 := HC3.out.size
  obtain ⟨hn1, hn2⟩ := nod_less hH.out.nod
  obtain ⟨s1, s2⟩ := seg_app.1 hH.out.seg
  have s1 := seg_frame (ns' := ns.set x (Nd.z, false)) s1 (fun z hz => List.getElem?_set_ne (fun e => hn2 z (List.mem_append_left _ hz) e.symm))
  have s2 := seg_frame (ns' := ns.set x (Nd.z, false)) s2.2 (fun z hz => List.getElem?_set_ne (fun e => hn2 z (List.mem_append_right _ hz) e.symm))
  obtain ⟨e1, e2⟩ := less_ends (n := x) (k := y) s1 s2
  rw [e1, e2] at hcb
  obtain ⟨_, hfl⟩ := hH.out.po.fs_lt hx (by rw [HX.out])
  have hct := hH.out.cnt
  refine ⟨rfl, An3, cn3, Af3, cf3, _, _, ⟨hcb, hqo, seg_less hH.out.seg hH.out.nod, hn1, ?_, fun z hz => ?_⟩, ?_, fun j hj => ?_⟩
  · rw [seta_len, setb_len, List.length_set, List.length_append]
    simp at hct ⊢
    omega
  · refine hH.out.keys z ?_
    rcases List.mem_append.1 hz with h | h <;> simp [h]
  · refine ((HB2.out.mono (O' := CB C Q An Af) (fun _ h => h.elim)).same (HC3.out.mono (fun j hj => .inr hj))).trans hc4 (fun j hj => ?_)
    rcases hj with rfl | hj
    · exact .inl (.inl rfl)
    · rcases HI3.out j hj with h | h
      · exact .inl (.inr h)
      · exact .inr (by omega)
  · rcases hi4 j hj with h | h
    · rcases HI3.out j h with h | h
      · exact .inl h
      · exact .inr (by omega)
    · exact .inr (by omega)
end
end Go.Proofs.YtelfacchhclgnaaGreat
end
