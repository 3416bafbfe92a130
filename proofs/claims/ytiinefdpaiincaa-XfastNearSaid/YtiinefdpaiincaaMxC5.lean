/- A chain whole: asking it; the texts walked. -/
import Derived.Test.YtiinefdpaiincaaMxC4
namespace Go.Proofs.Ytiinefdpaiincaa
open Go.RowKit
/-- Block C is a chain of these links. -/
structure CW (w : World) (C Q M lim : Nat) (An : Option Addr) (cn : Nat) (Af : Option Addr) (cf : Nat) (ns : List (Nd × Bool)) (fs : List Nat) (L : LL) : Prop where
  cb : Cb w C Q M (hd L (-1)) (lst (-1) L)
  po : Qo w Q M lim An cn Af cf ns fs
  seg : Seg ns (-1) L (-1)
  nod : (L.map (·.1)).Nodup
  cnt : ns.length - fs.length = L.length
  keys : ∀ x ∈ L, x.2 < 18446744073709551616
section
variable {w w' : World} {C Q M lim cn cf : Nat} {An Af : Option Addr} {ns : List (Nd × Bool)} {fs : List Nat} {L : LL}
theorem CW.chg {O : Nat → Prop} (h : CW w C Q M lim An cn Af cf ns fs L) (b : K.Chg w w' O) (hO : ∀ j, CB C Q An Af j → ¬ O j) : CW w' C Q M lim An cn Af cf ns fs L :=
  ⟨h.cb.chg b (hO C (.inl rfl)), h.po.chg b (fun j hj => hO j (.inr hj)), h.seg, h.nod, h.cnt, h.keys⟩
theorem CW.lt (h : CW w C Q M lim An cn Af cf ns fs L) {j : Nat} (hj : CB C Q An Af j) : j < w.heap.size := by
  rcases hj with rfl | hj
  · exact h.cb.lt
  · exact h.po.qb hj
theorem CW.ne_m (h : CW w C Q M lim An cn Af cf ns fs L) {tk : Nat} (hm : Mx w M tk) : ¬ CB C Q An Af M := by
  obtain ⟨r, c, s, p, hr⟩ := hm
  rintro (e | e | e | e)
  · exact row_ne hr h.cb.row (by decide) e
  · exact row_ne hr h.po.row (by decide) e
  · obtain ⟨_, cur, hc⟩ := own_block_lt h.po.nodes e
    exact row_ne hc hr (by decide) rfl
  · obtain ⟨_, cur, hc⟩ := own_block_lt h.po.freed e
    exact row_ne hc hr (by decide) rfl
theorem CW.len (h : CW w C Q M lim An cn Af cf ns fs L) : L.length ≤ lim ∧ lim ≤ 1048576 := by
  have := h.cnt
  have := h.po.ns_le
  exact ⟨by omega, h.po.lim_le⟩
/-- A link that stands there. -/
theorem CW.at (h : CW w C Q M lim An cn Af cf ns fs L) {L1 L2 : LL} {n k : Nat} (e : L = L1 ++ (n, k) :: L2) : ∃ hn : n < ns.length, ns[n] = (⟨k, lst (-1) L1, hd L2 (-1)⟩, true) := by
  have h1 := seg_at (e ▸ h.seg)
  obtain ⟨hn, h2⟩ := List.getElem?_eq_some_iff.1 h1
  exact ⟨hn, h2⟩
end
/-- What a call that changes a chain leaves, told by its links. -/
def CWS (w : World) (C Q M lim : Nat) (An Af : Option Addr) (L' : LL) (w' : World) : Prop :=
  ∃ An' cn' Af' cf' ns' fs', CW w' C Q M lim An' cn' Af' cf' ns' fs' L' ∧ K.Chg w w' (CB C Q An Af) ∧ ∀ j, QB Q An' Af' j → QB Q An Af j ∨ w.heap.size ≤ j
section
variable (w : World) (C Q M lim cn cf : Nat) (fi la : Int) (An Af : Option Addr) (ns : List (Nd × Bool)) (fs : List Nat)
theorem c_first (h : Cb w C Q M fi la) : Calls Try.prog 53 #[.pointer (some ⟨C, 0, none⟩)] w fun e w' => e = .returned (.int .i64 fi) ∧ w = w' := by
  have h2 := h.c2
  clear h
  go_enter Try.func53, Try.ntmps53
  go_wp2
  go_ret
  exact ⟨rfl, rfl⟩
theorem c_last (h : Cb w C Q M fi la) : Calls Try.prog 54 #[.pointer (some ⟨C, 0, none⟩)] w fun e w' => e = .returned (.int .i64 la) ∧ w = w' := by
  have h3 := h.c3
  clear h
  go_enter Try.func54, Try.ntmps54
  go_wp2
  go_ret
  exact ⟨rfl, rfl⟩
theorem c_len (L : LL) (h : CW w C Q M lim An cn Af cf ns fs L) : Calls Try.prog 42 #[.pointer (some ⟨C, 0, none⟩)] w fun e w' => e = .returned (.int .i64 (L.length : Int)) ∧ ∃ n, w' = w.drewN n := by
  have h1 := h.cb.c1
  have hq := Lib.hid (q_len w Q M lim cn cf An Af ns fs h.po)
  rw [h.cnt] at hq
  clear h
  go_enter Try.func42, Try.ntmps42
  go_wp2_with (go_at_call 61; (with_reducible refine hq.out.mono ?_); rintro e w1 ⟨rfl, N, rfl⟩)
  go_ret
  exact ⟨rfl, _, rfl⟩
set_option maxHeartbeats 1000000 in
theorem c_at_yes (h : Cb w C Q M fi la) (a : Qo w Q M lim An cn Af cf ns fs) (k : Nat) (hk : k < ns.length) (key : Nat) (ah be : Int) (hx : ns[k] = (⟨key, ah, be⟩, true)) (tk : Nat) (hM : Mx w M tk) (htk : tk < 1000000) :
    Calls Try.prog 73 #[.pointer (some ⟨C, 0, none⟩), .int .i64 (k : Int)] w (AtP w M (tk + 1) (ndv key ah be) true) := by
  have hb : Below w.heap.size w (w.alloc ndzo) := (Below.refl _ w).alloc (Nat.le_refl _) _
  have a1 := a.chg (K.Chg.of_below (O := fun _ => False) hb) (fun _ _ h => h)
  have h1 := h.chg (K.Chg.of_below (O := fun _ => False) hb) (fun h => h)
  have m1 := hM.chg (K.Chg.of_below (O := fun _ => False) hb) (fun h => h)
  have hml := hM.lt
  have hq := q_at_yes _ Q M lim cn cf An Af ns fs a1 k hk (by rw [hx]) tk m1 htk
  rw [hx] at hq
  have hq : Hid (Calls _ _ _ _ (AtP (w.alloc ndzo) M (tk + 1) (ndv key ah be) true)) := hq
  have c1 := h1.c1
  have HB := Lib.hid hb
  have hz1 : (w.alloc ndzo).heap.size = w.heap.size + 1 := by simp
  have HZ := Lib.hid hz1
  clear h a a1 h1 hx hM m1 hb hz1
  go_enter Try.func73, Try.ntmps73
  go_wp2_with (go_at_call 88; (with_reducible refine hq.out.mono ?_); rintro e w1 ⟨rfl, hm1, hc1⟩
               have zz := (hc1.block w.heap.size (by rw [HZ.out]; omega) (by omega)).trans (K.alloc_top _ _)
               have f0 := frozen_of_row _ _ 0 _ _ zz
               have f1 := frozen_of_row _ _ 1 _ _ zz
               have f2 := frozen_of_row _ _ 2 _ _ zz
               obtain ⟨t0, t1, t2⟩ := nd_cells zz
               have ZZ := Lib.hid zz
               have HM1 := Lib.hid hm1
               have HC1 := Lib.hid hc1
               clear hm1 hc1 zz)
  refine bodyPost_ret (nd_res rfl _ _ w.heap.size _ _ _ _ rfl (row_z5 ZZ.out _ _ _) rfl) rfl ?_
  have h5 : ∀ a b c, K.Chg w1 _ (fun j => j = w.heap.size) := fun a b c => chg_five w1 w.heap.size 0 1 2 a b c _ rfl
  have hch : K.Chg w w1 (· = M) := (K.Chg.of_below (O := (· = M)) HB.out).same HC1.out
  exact ⟨rfl, HM1.out.chg (h5 _ _ _) (by omega), hch.trans (h5 _ _ _) (fun j hj => .inr (by omega))⟩
theorem c_at_no (h : Cb w C Q M fi la) (a : Qo w Q M lim An cn Af cf ns fs) (i : Int) (hi : lvq ns i = false) :
    Calls Try.prog 73 #[.pointer (some ⟨C, 0, none⟩), .int .i64 i] w (PeekP w ndzv false) := by
  have hb : Below w.heap.size w (w.alloc ndzo) := (Below.refl _ w).alloc (Nat.le_refl _) _
  have a1 := a.chg (K.Chg.of_below (O := fun _ => False) hb) (fun _ _ h => h)
  have h1 := h.chg (K.Chg.of_below (O := fun _ => False) hb) (fun h => h)
  have hq := Lib.hid (q_at_no _ Q M lim cn cf An Af ns fs a1 i hi)
  have c1 := h1.c1
  have HB := Lib.hid hb
  have hz1 : (w.alloc ndzo).heap.size = w.heap.size + 1 := by simp
  have HZ := Lib.hid hz1
  clear h a a1 h1 hi hb hz1
  go_enter Try.func73, Try.ntmps73
  go_wp2_with (go_at_call 88; (with_reducible refine hq.out.mono ?_); rintro e w1 ⟨rfl, hb1⟩
               have zz := (hb1.block w.heap.size (by rw [HZ.out]; omega)).trans (K.alloc_top _ _)
               have f0 := frozen_of_row _ _ 0 _ _ zz
               have f1 := frozen_of_row _ _ 1 _ _ zz
               have f2 := frozen_of_row _ _ 2 _ _ zz
               obtain ⟨t0, t1, t2⟩ := nd_cells zz
               have ZZ := Lib.hid zz
               have HB1 := Lib.hid hb1
               clear hb1 zz)
  refine bodyPost_ret (nd_res rfl _ _ w.heap.size _ _ _ _ rfl (row_z5 ZZ.out _ _ _) rfl) rfl ⟨rfl, ?_⟩
  have h1 : Below w.heap.size w w1 := HB.out.trans (HB1.out.mono (by rw [HZ.out]; omega))
  exact ((h1.setCell (by simp) _).setCell (by simp) _).setCell (by simp) _
theorem c_at_nil (i : Int) : Calls Try.prog 73 #[.pointer none, .int .i64 i] w (PeekP w ndzv false) := by
  go_enter Try.func73, Try.ntmps73
  go_wp2
  refine bodyPost_ret (nd_res rfl _ _ w.heap.size _ _ _ _ rfl (K.alloc_top _ _) rfl) rfl ⟨rfl, ?_⟩
  exact (Below.refl _ w).alloc (Nat.le_refl _) _
theorem c_key_no (h : Cb w C Q M fi la) (a : Qo w Q M lim An cn Af cf ns fs) (i : Int) (hi : lvq ns i = false) :
    Calls Try.prog 52 #[.pointer (some ⟨C, 0, none⟩), .int .i64 i] w fun e w' => e = .returned (.tuple #[.int .u64 0, .bool false]) ∧ Below w.heap.size w w' := by
  have hq := Lib.hid (c_at_no w C Q M lim cn cf fi la An Af ns fs h a i hi)
  clear h a hi
  go_enter Try.func52, Try.ntmps52
  go_wp2_with (go_at_call 73; (with_reducible refine hq.out.mono ?_); rintro e w1 ⟨rfl, hb1⟩; have HB1 := Lib.hid hb1; clear hb1)
  go_ret2
  exact ⟨rfl, HB1.out.alloc HB1.out.size _⟩
theorem c_key_nil (i : Int) :
    Calls Try.prog 52 #[.pointer none, .int .i64 i] w fun e w' => e = .returned (.tuple #[.int .u64 0, .bool false]) ∧ Below w.heap.size w w' := by
  have hq := Lib.hid (c_at_nil w i)
  go_enter Try.func52, Try.ntmps52
  go_wp2_with (go_at_call 73; (with_reducible refine hq.out.mono ?_); rintro e w1 ⟨rfl, hb1⟩; have HB1 := Lib.hid hb1; clear hb1)
  go_ret2
  exact ⟨rfl, HB1.out.alloc HB1.out.size _⟩
theorem c_key_yes (h : Cb w C Q M fi la) (a : Qo w Q M lim An cn Af cf ns fs) (k : Nat) (hk : k < ns.length) (key : Nat) (ah be : Int) (hx : ns[k] = (⟨key, ah, be⟩, true)) (tk : Nat) (hM : Mx w M tk) (htk : tk < 1000000) :
    Calls Try.prog 52 #[.pointer (some ⟨C, 0, none⟩), .int .i64 (k : Int)] w fun e w' => e = .returned (.tuple #[.int .u64 (key : Int), .bool true]) ∧ Mx w' M (tk + 1) ∧ K.Chg w w' (· = M) := by
  have hq := Lib.hid (c_at_yes w C Q M lim cn cf fi la An Af ns fs h a k hk key ah be hx tk hM htk)
  clear h a hx hM
  go_enter Try.func52, Try.ntmps52
  go_wp2_with (go_at_call 73; (with_reducible refine hq.out.mono ?_); rintro e w1 ⟨rfl, hm1, hc1⟩; have HM1 := Lib.hid hm1; have HC1 := Lib.hid hc1; clear hm1 hc1)
  go_ret2
  exact ⟨rfl, HM1.out.chg (chg_alloc _ _ (fun _ => False)) (fun h => h), HC1.out.same (chg_alloc _ _ _)⟩
theorem c_next_no (h : Cb w C Q M fi la) (a : Qo w Q M lim An cn Af cf ns fs) (i : Int) (hi : lvq ns i = false) :
    Calls Try.prog 67 #[.pointer (some ⟨C, 0, none⟩), .int .i64 i] w fun e w' => e = .returned (.int .i64 (-1)) ∧ Below w.heap.size w w' := by
  have hq := Lib.hid (c_at_no w C Q M lim cn cf fi la An Af ns fs h a i hi)
  clear h a hi
  go_enter Try.func67, Try.ntmps67
  go_wp2_with (go_at_call 73; (with_reducible refine hq.out.mono ?_); rintro e w1 ⟨rfl, hb1⟩; have HB1 := Lib.hid hb1; clear hb1)
  go_ret
  exact ⟨rfl, HB1.out.alloc HB1.out.size _⟩
theorem c_next_nil (i : Int) :
    Calls Try.prog 67 #[.pointer none, .int .i64 i] w fun e w' => e = .returned (.int .i64 (-1)) ∧ Below w.heap.size w w' := by
  have hq := Lib.hid (c_at_nil w i)
  go_enter Try.func67, Try.ntmps67
  go_wp2_with (go_at_call 73; (with_reducible refine hq.out.mono ?_); rintro e w1 ⟨rfl, hb1⟩; have HB1 := Lib.hid hb1; clear hb1)
  go_ret
  exact ⟨rfl, HB1.out.alloc HB1.out.size _⟩
theorem c_next_yes (h : Cb w C Q M fi la) (a : Qo w Q M lim An cn Af cf ns fs) (k : Nat) (hk : k < ns.length) (key : Nat) (ah be : Int) (hx : ns[k] = (⟨key, ah, be⟩, true)) (tk : Nat) (hM : Mx w M tk) (htk : tk < 1000000) :
    Calls Try.prog 67 #[.pointer (some ⟨C, 0, none⟩), .int .i64 (k : Int)] w fun e w' => e = .returned (.int .i64 be) ∧ Mx w' M (tk + 1) ∧ K.Chg w w' (· = M) := by
  have hq := Lib.hid (c_at_yes w C Q M lim cn cf fi la An Af ns fs h a k hk key ah be hx tk hM htk)
  clear h a hx hM
  go_enter Try.func67, Try.ntmps67
  go_wp2_with (go_at_call 73; (with_reducible refine hq.out.mono ?_); rintro e w1 ⟨rfl, hm1, hc1⟩; have HM1 := Lib.hid hm1; have HC1 := Lib.hid hc1; clear hm1 hc1)
  go_ret
  exact ⟨rfl, HM1.out.chg (chg_alloc _ _ (fun _ => False)) (fun h => h), HC1.out.same (chg_alloc _ _ _)⟩
theorem c_prev_no (h : Cb w C Q M fi la) (a : Qo w Q M lim An cn Af cf ns fs) (i : Int) (hi : lvq ns i = false) :
    Calls Try.prog 70 #[.pointer (some ⟨C, 0, none⟩), .int .i64 i] w fun e w' => e = .returned (.int .i64 (-1)) ∧ Below w.heap.size w w' := by
  have hq := Lib.hid (c_at_no w C Q M lim cn cf fi la An Af ns fs h a i hi)
  clear h a hi
  go_enter Try.func70, Try.ntmps70
  go_wp2_with (go_at_call 73; (with_reducible refine hq.out.mono ?_); rintro e w1 ⟨rfl, hb1⟩; have HB1 := Lib.hid hb1; clear hb1)
  go_ret
  exact ⟨rfl, HB1.out.alloc HB1.out.size _⟩
theorem c_prev_nil (i : Int) :
    Calls Try.prog 70 #[.pointer none, .int .i64 i] w fun e w' => e = .returned (.int .i64 (-1)) ∧ Below w.heap.size w w' := by
  have hq := Lib.hid (c_at_nil w i)
  go_enter Try.func70, Try.ntmps70
  go_wp2_with (go_at_call 73; (with_reducible refine hq.out.mono ?_); rintro e w1 ⟨rfl, hb1⟩; have HB1 := Lib.hid hb1; clear hb1)
  go_ret
  exact ⟨rfl, HB1.out.alloc HB1.out.size _⟩
theorem c_prev_yes (h : Cb w C Q M fi la) (a : Qo w Q M lim An cn Af cf ns fs) (k : Nat) (hk : k < ns.length) (key : Nat) (ah be : Int) (hx : ns[k] = (⟨key, ah, be⟩, true)) (tk : Nat) (hM : Mx w M tk) (htk : tk < 1000000) :
    Calls Try.prog 70 #[.pointer (some ⟨C, 0, none⟩), .int .i64 (k : Int)] w fun e w' => e = .returned (.int .i64 ah) ∧ Mx w' M (tk + 1) ∧ K.Chg w w' (· = M) := by
  have hq := Lib.hid (c_at_yes w C Q M lim cn cf fi la An Af ns fs h a k hk key ah be hx tk hM htk)
  clear h a hx hM
  go_enter Try.func70, Try.ntmps70
  go_wp2_with (go_at_call 73; (with_reducible refine hq.out.mono ?_); rintro e w1 ⟨rfl, hm1, hc1⟩; have HM1 := Lib.hid hm1; have HC1 := Lib.hid hc1; clear hm1 hc1)
  go_ret
  exact ⟨rfl, HM1.out.chg (chg_alloc _ _ (fun _ => False)) (fun h => h), HC1.out.same (chg_alloc _ _ _)⟩
end
end Go.Proofs.Ytiinefdpaiincaa
