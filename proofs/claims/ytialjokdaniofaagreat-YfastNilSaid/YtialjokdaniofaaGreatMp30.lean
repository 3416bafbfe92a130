/- A key's bucket is found: find; the text walked. What begins and ends a bucket: the pool, the links, the table, the representatives; the texts walked. A bucket begins, or ends; the texts walked. -/
import Derived.Test.YtialjokdaniofaaGreatMp29
section
namespace Go.Proofs.YtialjokdaniofaaGreat
set_option maxRecDepth 20000
open Go.RowKit
section
variable {w0 w : World} {O : Nat → Prop} {P M X T Q lim tk : Nat} {kn : Int} {rs : List Nat} {es : Es} {ns : List (Yp.Nd × Bool)} {fs : List Nat} {G : Nat → List Nat}
theorem y_at_yes (h : YR w0 O P M X T Q lim tk kn rs es ns fs G w) (htk : tk ≤ 1000) (i : Nat) (nd : Yp.Nd) (hi : ns[i]? = some (nd, true)) :
    Calls Tryz.prog 84 #[.pointer (some ⟨Q, 0, none⟩), .int .i64 (i : Int)] w fun e w' => e = .returned (.tuple #[nd.v, .bool true]) ∧ YR w0 O P M X T Q lim (tk + 1) kn rs es ns fs G w' := by
  obtain ⟨hk, hx⟩ := List.getElem?_eq_some_iff.1 hi
  have h9 := h
  obtain ⟨O', ⟨OX, r, c, seed, Qt, Mt, n, pr, An, cn, Af, cf, hb, rfl⟩, hC, hO⟩ := h
  have hp := Yp.q_at_yes w Q M lim cn cf An Af ns fs hb.po i hk (by rw [hx]) tk hb.mx (by omega)
  rw [hx] at hp
  refine hp.mono ?_
  rintro e w' ⟨he, hm, hc⟩
  exact ⟨he, h9.met hc hm⟩
theorem y_at_nd (h : YR w0 O P M X T Q lim tk kn rs es ns fs G w) (htk : tk ≤ 1000) (i rep : Nat) (ksA : Option Addr) (ksn ksc : Nat) (ah be : Int) (hi : ns[i]? = some (⟨rep, ksA, ksn, ksc, ah, be⟩, true)) :
    Calls Tryz.prog 84 #[.pointer (some ⟨Q, 0, none⟩), .int .i64 (i : Int)] w fun e w' => e = .returned (.tuple #[Yp.ndv rep ksA ksn ksc ah be, .bool true]) ∧ YR w0 O P M X T Q lim (tk + 1) kn rs es ns fs G w' := y_at_yes h htk i _ hi
theorem y_call (h : YR w0 O P M X T Q lim tk kn rs es ns fs G w) (htk : tk ≤ 1000) :
    Calls Tryz.prog 83 #[.pointer (some ⟨M, 0, none⟩)] w fun e w' => e = .returned (.tuple #[]) ∧ YR w0 O P M X T Q lim (tk + 1) kn rs es ns fs G w' :=
  (Yp.x_call w M tk h.mx (by omega)).mono fun e w' ⟨he, hm, hc⟩ => ⟨he, h.met hc hm⟩
theorem y_start (h : YR w0 O P M X T Q lim tk kn rs es ns fs G w) :
    Calls Tryz.prog 46 #[.pointer (some ⟨M, 0, none⟩)] w fun e w' => e = .returned (.tuple #[]) ∧ YR w0 O P M X T Q lim 0 kn rs es ns fs G w' :=
  (Yp.x_start w M tk h.mx).mono fun e w' ⟨he, hm, hc⟩ => ⟨he, h.met hc hm⟩
/-- Which bucket is a key's. -/
def Sel (rs : List Nat) (es : Es) (ns : List (Yp.Nd × Bool)) (k : Nat) (i : Int) (nd : Yp.Nd) : Prop :=
  (K.pvb rs k = false ∧ i = -1 ∧ nd = ⟨0, none, 0, 0, -1, -1⟩) ∨ (K.pvb rs k = true ∧ ∃ num : Nat, i = (num : Int) ∧ ((0, K.pv rs k), num) ∈ es ∧ num < 1048576 ∧ ns[num]? = some (nd, true))
theorem yr_box5 {w3 w' : World} {O3 : Nat → Prop} {d : Nat} (h : YT w3 P M X T Q lim tk kn rs es ns fs G O3) (hC : K.Chg w w3 O) (hO : ∀ j, O3 j → O j ∨ w.heap.size + 5 ≤ j) (hK : ∀ j, KBl ns j → j < w.heap.size) (b : K.Chg w3 w' (· = w.heap.size + 2)) (hO1 : ∀ j, O j → j < w.heap.size) : YR w O P M X T Q lim tk kn rs es ns fs G (w'.drewN d) := by
  refine ⟨O3, (h.chg b (fun j hj e => ?_) (fun j hj e => ?_)).chg ((chg_refl w' (fun _ => False)).drewN d) (fun _ _ h => h) (fun _ _ h => h), (hC.trans b (fun j e => .inr (by omega))).drewN d, fun j hj => ?_⟩
  · rcases hO j hj with h | h
    · have := hO1 j h
      omega
    · omega
  · have := hK j hj
    omega
  · rcases hO j hj with h | h
    · exact .inl h
    · exact .inr (by omega)
theorem yr_box7 {w3 W w' : World} {O3 : Nat → Prop} {d : Nat} (hC : K.Chg w w3 O) (hO : ∀ j, O3 j → O j ∨ w.heap.size + 5 ≤ j) (h : YR w3 O3 P M X T Q lim tk kn rs es ns fs G W) (hz : w.heap.size + 5 ≤ w3.heap.size) (hK : ∀ j, KBl ns j → j < w.heap.size) (hO1 : ∀ j, O j → j < w.heap.size) (b : K.Chg W w' (· = w.heap.size + 2)) : YR w O P M X T Q lim tk kn rs es ns fs G (w'.drewN d) := by
  obtain ⟨O6, hT6, hC6, hO6⟩ := h
  have hin : ∀ j, O6 j → O j ∨ w.heap.size + 5 ≤ j := fun j hj => by
    rcases hO6 j hj with h | h
    · exact hO j h
    · exact .inr (by omega)
  have hC7 : K.Chg w W O := hC.trans hC6 (fun j hj => by
    rcases hO j hj with h | h
    · exact .inl h
    · exact .inr (by omega))
  refine ⟨O6, (hT6.chg b (fun j hj e => ?_) (fun j hj e => ?_)).chg ((chg_refl w' (fun _ => False)).drewN d) (fun _ _ h => h) (fun _ _ h => h), (hC7.trans b (fun j e => .inr (by omega))).drewN d, fun j hj => ?_⟩
  · rcases hin j hj with h | h
    · have := hO1 j h
      omega
    · omega
  · have := hK j hj
    omega
  · rcases hin j hj with h | h
    · exact .inl h
    · exact .inr (by omega)
set_option maxHeartbeats 4000000 in
theorem y_find_T (h : YT w P M X T Q lim tk kn rs es ns fs G O) (htk : tk ≤ 100) (k : Nat) (hk : k < 18446744073709551616) (i : Int) (nd : Yp.Nd) (hs : Sel rs es ns k i nd) :
    Calls Tryz.prog 47 #[.pointer (some ⟨P, 0, none⟩), .int .u64 (k : Int)] w fun e w' => e = .returned (.tuple #[.int .i64 i, nd.v]) ∧ ∃ t, t ≤ 11 ∧ YR w O P M X T Q lim (tk + t) kn rs es ns fs G w' := by
  have HC : Hid (Calls Tryz.prog 80 #[.pointer (some ⟨P, 0, none⟩), .func (.func 81) #[] #[.pointer (some ⟨w.heap.size, 0, none⟩), .pointer (some ⟨w.heap.size + 1, 0, none⟩), .pointer (some ⟨w.heap.size + 1 + 1 + 1, 0, none⟩), .pointer (some ⟨w.heap.size + 1 + 1 + 1 + 1, 0, none⟩)]] (((((w.alloc (bxP P)).alloc (bxK k)).alloc (.cells #[.int .u64 0, .slice none 0 0, .int .i64 0, .int .i64 0] 74)).alloc (.cells #[.int .u64 0] 22)).alloc (.cells #[.bool false] 4)) fun e w3 =>
      e = .returned (.tuple #[]) ∧ ∃ t, t ≤ 9 ∧ FR w O P M X T Q lim (tk + t) kn rs es ns fs G k w3) := Lib.hid (y_find_carry h htk k hk)
  obtain ⟨hb, hz, r2, r3, r5, r6, r7⟩ := fw_rows w P k
  have c2 : (((((w.alloc (bxP P)).alloc (bxK k)).alloc (.cells #[.int .u64 0, .slice none 0 0, .int .i64 0, .int .i64 0] 74)).alloc (.cells #[.int .u64 0] 22)).alloc (.cells #[.bool false] 4)).cell? ⟨w.heap.size, 0, none⟩ = some (.pointer (some ⟨P, 0, none⟩)) := cell_of_row (fw w P k) w.heap.size 0 _ _ (0, 0) r2
  have hmf : ∀ (fn : Fn) (first cap : Array Value) (w : World), (Instr.makeFunc fn first cap).run Tryz.prog w = .ok (.func fn first cap) w := fun _ _ _ _ => rfl
  have HLT := Lib.hid h.lt
  rcases hs with ⟨hpb, rfl, rfl⟩ | ⟨hpb, num, rfl, hv, hnl, hnd⟩
  · have HPB := Lib.hid hpb
    clear h hb hz r2 r3 r5 r6 r7 hpb
    go_enter Tryz.func47, Tryz.ntmps47
    go_wp2_with (go_at_call 80; (with_reducible refine (HC.out).mono ?_); rintro e w3 ⟨rfl, t, ht, O3, hT3, hC3, hO3, hz3, q2, q5, q6, q7⟩
                 rw [HPB.out] at q7
                 have k2 := cell_of_row w3 _ 0 _ _ (0, 0) q2
                 have k6 := cell_of_row w3 (w.heap.size + 1 + 1 + 1) 0 _ _ (0, 0) q6
                 have k7 := cell_of_row w3 (w.heap.size + 1 + 1 + 1 + 1) 0 _ _ (0, 0) q7
                 have q5' : w3.heap[w.heap.size + 1 + 1]? = some (.cells #[.int .u64 0, .slice none 0 0, .int .i64 0, .int .i64 0] 74 (0, 0)) := q5
                 obtain ⟨k50, k51, k52, k53⟩ := Yp.nd_cells q5'
                 have f50 := frozen_of_row w3 _ 0 _ _ q5'
                 have f51 := frozen_of_row w3 _ 1 _ _ q5'
                 have f52 := frozen_of_row w3 _ 2 _ _ q5'
                 have f53 := frozen_of_row w3 _ 3 _ _ q5'
                 simp at k2 k6 k7
                 have HT3 := Lib.hid hT3
                 have HC3 := Lib.hid hC3
                 have HO3 := Lib.hid hO3
                 have HZ3 := Lib.hid hz3
                 have Q2 := Lib.hid q2
                 have Q5 := Lib.hid q5'
                 have Q6 := Lib.hid q6
                 have Ht := Lib.hid ht
                 have hP0 := (YR.start hT3).c0
                 clear hT3 hC3 hO3 hz3 q2 q5 q5' q6 q7 ht c2)
    have hrow := Yp.row_z5 Q5.out (.int .u64 ((0 : Nat) : Int)) (.slice none 0 0) (.int .i64 (-1)) (.int .i64 (-1))
    refine bodyPost_ret (find_res rfl _ _ (w.heap.size + 1 + 1) _ _ _ _ _ rfl hrow rfl) rfl ⟨rfl, t, by have := Ht.out; omega, ?_⟩
    exact yr_box5 (d := 0) HT3.out HC3.out HO3.out HLT.out.2 (Yp.chg_five w3 (w.heap.size + 1 + 1) 0 1 2 3 _ _ _ _ (· = w.heap.size + 2) rfl) HLT.out.1
  · obtain ⟨rep, ksA, ksn, ksc, ah, be⟩ := nd
    have HPB := Lib.hid hpb
    have HV := Lib.hid hv
    have HND := Lib.hid hnd
    clear h hb hz r2 r3 r5 r6 r7 hpb hv hnd
    go_enter Tryz.func47, Tryz.ntmps47
    go_wp2_with (first
      | (go_at_call 80; (with_reducible refine (HC.out).mono ?_); rintro e w3 ⟨rfl, t, ht, O3, hT3, hC3, hO3, hz3, q2, q5, q6, q7⟩
         rw [HPB.out] at q7
         have k2 := cell_of_row w3 _ 0 _ _ (0, 0) q2
         have k6 := cell_of_row w3 (w.heap.size + 1 + 1 + 1) 0 _ _ (0, 0) q6
         have k7 := cell_of_row w3 (w.heap.size + 1 + 1 + 1 + 1) 0 _ _ (0, 0) q7
         have q5' : w3.heap[w.heap.size + 1 + 1]? = some (.cells #[.int .u64 0, .slice none 0 0, .int .i64 0, .int .i64 0] 74 (0, 0)) := q5
         obtain ⟨k50, k51, k52, k53⟩ := Yp.nd_cells q5'
         have f50 := frozen_of_row w3 _ 0 _ _ q5'
         have f51 := frozen_of_row w3 _ 1 _ _ q5'
         have f52 := frozen_of_row w3 _ 2 _ _ q5'
         have f53 := frozen_of_row w3 _ 3 _ _ q5'
         simp at k2 k6 k7
         have HT3 := Lib.hid hT3
         have HC3 := Lib.hid hC3
         have HO3 := Lib.hid hO3
         have HZ3 := Lib.hid hz3
         have Q2 := Lib.hid q2
         have Q5 := Lib.hid q5'
         have Q6 := Lib.hid q6
         have Ht := Lib.hid ht
         have hP0 := (YR.start hT3).c0
         clear hT3 hC3 hO3 hz3 q2 q5 q5' q6 q7 ht c2)
      | (go_at_call 83; (with_reducible refine (y_call (YR.start HT3.out) (by have := Ht.out; omega)).mono ?_); rintro e w4 ⟨rfl, h4⟩
         have hbx : ∀ j, w.heap.size ≤ j → j < w.heap.size + 5 → ¬ O3 j := fun j h1 h2 h3 => (by rcases HO3.out j h3 with h | h; have := HLT.out.1 j h; omega; omega)
         have HBX := Lib.hid hbx
         have hz := HZ3.out
         have p2 := (h4.same (j := w.heap.size) (by omega) (hbx _ (by omega) (by omega))).trans Q2.out
         have p5 := (h4.same (j := w.heap.size + 1 + 1) (by omega) (hbx _ (by omega) (by omega))).trans Q5.out
         have p6 := (h4.same (j := w.heap.size + 1 + 1 + 1) (by omega) (hbx _ (by omega) (by omega))).trans Q6.out
         have k2' := cell_of_row w4 _ 0 _ _ (0, 0) p2
         have k6' := cell_of_row w4 _ 0 _ _ (0, 0) p6
         simp at k2' k6'
         have HY := Lib.hid h4
         have P2 := Lib.hid p2
         have P5 := Lib.hid p5
         clear h4 hbx hz p2 p5 p6)
      | (go_at_call 79; (with_reducible refine (y_place HY.out _ num HV.out hnl).mono ?_); rintro e w5 ⟨rfl, h5⟩
         have hz := HZ3.out
         have p2 := (h5.same (j := w.heap.size) (by omega) (HBX.out _ (by omega) (by omega))).trans Q2.out
         have p5 := (h5.same (j := w.heap.size + 1 + 1) (by omega) (HBX.out _ (by omega) (by omega))).trans Q5.out
         have k2'' := cell_of_row w5 _ 0 _ _ (0, 0) p2
         simp at k2''
         have c3 := h5.c3
         have HY5 := Lib.hid h5
         clear h5 hz p2 p5)
      | (go_at_call 84; (with_reducible refine (y_at_nd HY5.out (by have := Ht.out; omega) num rep ksA ksn ksc ah be HND.out).mono ?_); rintro e w6 ⟨rfl, h6⟩
         have hz := HZ3.out
         have p5 := (h6.same (j := w.heap.size + 1 + 1) (by omega) (HBX.out _ (by omega) (by omega))).trans Q5.out
         have hl5 := row_lt p5
         have p5' := (Below.heap_alloc w6 (Yp.ndo rep ksA ksn ksc ah be) _ hl5).trans p5
         obtain ⟨k50, k51, k52, k53⟩ := Yp.nd_cells p5'
         have f50 := frozen_of_row _ _ 0 _ _ p5'
         have f51 := frozen_of_row _ _ 1 _ _ p5'
         have f52 := frozen_of_row _ _ 2 _ _ p5'
         have f53 := frozen_of_row _ _ 3 _ _ p5'
         have HY6 := Lib.hid h6
         have P6 := Lib.hid p5'
         clear h6 hz p5 hl5 p5'))
    go_region
    all_goals
      go_wp2
      have hrow := Yp.row_z5 P6.out (.int .u64 (rep : Int)) (.slice ksA ksn ksc) (.int .i64 ah) (.int .i64 be)
      refine bodyPost_ret (find_res rfl _ _ (w.heap.size + 1 + 1) _ _ _ _ _ rfl hrow rfl) rfl ⟨rfl, t + 2, by have := Ht.out; omega, ?_⟩
      have h7 := HY6.out.below ((Below.refl _ w6).alloc (Nat.le_refl _) (Yp.ndo rep ksA ksn ksc ah be))
      exact yr_box7 HC3.out HO3.out h7 HZ3.out HLT.out.2 HLT.out.1 (Yp.chg_five (w6.alloc (Yp.ndo rep ksA ksn ksc ah be)) (w.heap.size + 1 + 1) 0 1 2 3 _ _ _ _ (· = w.heap.size + 2) rfl)
theorem y_find (h : YR w0 O P M X T Q lim tk kn rs es ns fs G w) (htk : tk ≤ 100) (k : Nat) (hk : k < 18446744073709551616) (i : Int) (nd : Yp.Nd) (hs : Sel rs es ns k i nd) :
    Calls Tryz.prog 47 #[.pointer (some ⟨P, 0, none⟩), .int .u64 (k : Int)] w fun e w' => e = .returned (.tuple #[.int .i64 i, nd.v]) ∧ ∃ t, t ≤ 11 ∧ YR w0 O P M X T Q lim (tk + t) kn rs es ns fs G w' := by
  obtain ⟨O', hT, hC, hO⟩ := h
  refine (y_find_T hT htk k hk i nd hs).mono ?_
  rintro e w' ⟨he, t, ht, hy⟩
  exact ⟨he, t, ht, YR.trans hC hO hy⟩
end
end Go.Proofs.YtialjokdaniofaaGreat
end
section
namespace Go.Proofs.YtialjokdaniofaaGreat
set_option maxRecDepth 20000
open Go.RowKit
theorem xg_ty {r c : Int} {w : World} {X lim tk : Nat} {xs : List Nat} {O : Nat → Prop} (h : XG r c w X xs lim tk O) {j : Nat} (hj : O j) : ¬ Bt w j 22 := by
  letI : Gh := ⟨r, c⟩
  obtain ⟨C, Q, M, P, L, es, hs⟩ := h
  obtain ⟨⟨seed, An, cn, Af, cf, ns, fs, Qt, Mt, n, pr, hb, rfl⟩, te, ks, up, cnt, le, max, few⟩ := hs
  rintro ⟨cs, hu⟩
  rcases hj with rfl | rfl | hj | hj
  · exact row_ne hb.row hu (by decide) rfl
  · obtain ⟨_, _, _, _, _, hr, _⟩ := hb.mx
    exact row_ne hr hu (by decide) rfl
  · obtain ⟨c', t', hr, ht⟩ := cb_rows hb.ch hj
    rcases ht with rfl | rfl | rfl | rfl <;> exact row_ne hr hu (by decide) rfl
  · obtain ⟨c', t', hr, ht⟩ := tf_rows hb.tab hj
    rcases ht with rfl | rfl | rfl <;> exact row_ne hr hu (by decide) rfl
section
variable {w0 w : World} {O : Nat → Prop} {P M X T Q lim tk : Nat} {kn : Int} {rs : List Nat} {es : Es} {ns : List (Yp.Nd × Bool)} {fs : List Nat} {G : Nat → List Nat}
/-- A list of keys is none of the blocks that the trie writes. -/
theorem YT.kfree_kx {O' : Nat → Prop} (h : YT w P M X T Q lim tk kn rs es ns fs G O') {x : Yp.Nd} {xs : List Nat} (hk : KX w (ksl x) xs) : Kfree w O' x xs := by
  obtain ⟨OX, r, c, seed, Qt, Mt, n, pr, An, cn, Af, cf, hb, rfl⟩ := h
  refine ⟨hk, fun j hj ho => ?_⟩
  have hu := kx_bt hk hj
  rcases ho with e | e | e | e | e
  · subst e; exact hb.bP.ne hu (by decide) rfl
  · subst e; exact hb.bM.ne hu (by decide) rfl
  · exact xg_ty hb.xg e hu
  · rcases hb.bT e with h2 | h2 | ⟨_, h2⟩ <;> exact h2.ne hu (by decide) rfl
  · rcases hb.bQ e with h2 | h2 | h2 <;> exact h2.ne hu (by decide) rfl
/-- Nodes that have the same keys. -/
def Alike (ns ns' : List (Yp.Nd × Bool)) : Prop := ∀ (j : Nat) (x : Yp.Nd × Bool), ns'[j]? = some x → x.2 = true → ∃ y : Yp.Nd × Bool, ns[j]? = some y ∧ y.2 = true ∧ ksl x.1 = ksl y.1
theorem Alike.refl (ns : List (Yp.Nd × Bool)) : Alike ns ns := fun _ x h h2 => ⟨x, h, h2, rfl⟩
theorem Alike.trans {a b c : List (Yp.Nd × Bool)} (h : Alike a b) (k : Alike b c) : Alike a c := fun j x hx ht => by
  obtain ⟨y, h1, h2, h3⟩ := k j x hx ht
  obtain ⟨z, h4, h5, h6⟩ := h j y h1 h2
  exact ⟨z, h4, h5, h3.trans h6⟩
theorem alike_setb (ns : List (Yp.Nd × Bool)) (i b : Int) : Alike ns (Yp.setb ns i b) := fun j x hx ht => by
  unfold Yp.setb at hx
  split at hx
  · rename_i h
    obtain ⟨k, rfl, hk, e⟩ := Yp.lvq_form h
    rw [Int.toNat_natCast, List.getElem?_set] at hx
    split at hx
    · rename_i e2
      subst e2
      injection hx with hx
      subst hx
      exact ⟨_, List.getElem?_eq_getElem hk, by rw [e], by rw [e]; rfl⟩
    · exact ⟨x, hx, ht, rfl⟩
  · exact ⟨x, hx, ht, rfl⟩
theorem alike_seta (ns : List (Yp.Nd × Bool)) (i b : Int) : Alike ns (Yp.seta ns i b) := fun j x hx ht => by
  unfold Yp.seta at hx
  split at hx
  · rename_i h
    obtain ⟨k, rfl, hk, e⟩ := Yp.lvq_form h
    rw [Int.toNat_natCast, List.getElem?_set] at hx
    split at hx
    · rename_i e2
      subst e2
      injection hx with hx
      subst hx
      exact ⟨_, List.getElem?_eq_getElem hk, by rw [e], by rw [e]; rfl⟩
    · exact ⟨x, hx, ht, rfl⟩
  · exact ⟨x, hx, ht, rfl⟩
theorem YT.kx {O' : Nat → Prop} (h : YT w P M X T Q lim tk kn rs es ns fs G O') {j : Nat} {x : Yp.Nd} (hx : ns[j]? = some (x, true)) : KX w (ksl x) (G j) := by
  obtain ⟨hj, e⟩ := List.getElem?_eq_some_iff.1 hx
  have := (h.kfree hj (by rw [e])).1
  rw [e] at this
  exact this
theorem YR.kx (h : YR w0 O P M X T Q lim tk kn rs es ns fs G w) {j : Nat} {x : Yp.Nd} (hx : ns[j]? = some (x, true)) : KX w (ksl x) (G j) := by
  obtain ⟨O', hT, _⟩ := h
  exact hT.kx hx
theorem YR.join (h : YR w0 O P M X T Q lim tk kn rs es ns fs G w) (a b : Int) :
    Calls Tryz.prog 93 #[.pointer (some ⟨P, 0, none⟩), .int .i64 a, .int .i64 b] w fun e w' => e = .returned (.tuple #[]) ∧ YR w0 O P M X T Q lim tk kn rs es (Yp.seta (Yp.setb ns a b) b a) fs G w' :=
  h.pool (fun O' i hi hT ht => by
    obtain ⟨y, h1, h2, h3⟩ := ((alike_setb ns a b).trans (alike_seta _ b a)) i _ (List.getElem?_eq_getElem hi) ht
    obtain ⟨y1, y2⟩ := y
    dsimp only at h2 h3
    subst h2
    refine hT.kfree_kx ?_
    rw [h3]
    exact hT.kx h1) (fun An cn Af cf h3 hl hq hp hm => Yp.y_join w P Q M lim cn cf An Af ns fs h3 hl hq hp a b)
/-- What stands behind a bucket. -/
def beh (ns : List (Yp.Nd × Bool)) (i : Int) : Int := if Yp.lvq ns i then (Yp.ndi ns i).behind else -1
theorem YR.ask {f : FuncId} {args : Array Value} {v : Value} (h : YR w0 O P M X T Q lim tk kn rs es ns fs G w)
    (hc : ∀ An cn Af cf, w.cell? ⟨P, 3, none⟩ = some (.pointer (some ⟨Q, 0, none⟩)) → Yp.Qo w Q M lim An cn Af cf ns fs → Calls Tryz.prog f args w fun e w' => e = .returned v ∧ Below w.heap.size w w') :
    Calls Tryz.prog f args w fun e w' => e = .returned v ∧ YR w0 O P M X T Q lim tk kn rs es ns fs G w' := by
  have h9 := h
  obtain ⟨O', ⟨OX, r, c, seed, Qt, Mt, n, pr, An, cn, Af, cf, hb, rfl⟩, hC, hO⟩ := h
  exact (hc An cn Af cf h9.c3 hb.po).mono fun e w' ⟨he, hb2⟩ => ⟨he, h9.below hb2⟩
theorem YR.behind (h : YR w0 O P M X T Q lim tk kn rs es ns fs G w) (i : Int) :
    Calls Tryz.prog 91 #[.pointer (some ⟨P, 0, none⟩), .int .i64 i] w fun e w' => e = .returned (.int .i64 (beh ns i)) ∧ YR w0 O P M X T Q lim tk kn rs es ns fs G w' :=
  h.ask fun An cn Af cf h3 hp => by
    unfold beh
    cases hi : Yp.lvq ns i with
    | true =>
      obtain ⟨k, rfl, hk, e⟩ := Yp.lvq_form hi
      exact Yp.y_behind_yes w P Q M lim cn cf An Af ns fs h3 hp k (Yp.ndi ns (k : Int)).key _ _ (by rw [List.getElem?_eq_getElem hk, e]; rfl)
    | false => exact Yp.y_behind_no w P Q M lim cn cf An Af ns fs h3 hp i hi
/-- What a new bucket's place is. -/
def AllocF (ns : List (Yp.Nd × Bool)) (fs : List Nat) (nd : Yp.Nd) (i : Nat) (ns2 : List (Yp.Nd × Bool)) (fs2 : List Nat) : Prop :=
  i < ns2.length ∧ ((∃ h : i < ns.length, ns[i].2 = false) ∨ ns.length ≤ i) ∧ ns2[i]? = some (nd, true) ∧ (∀ j, j ≠ i → ns2[j]? = ns[j]?) ∧ ns2.length - fs2.length = ns.length - fs.length + 1 ∧ i < 1048576
def upd (G : Nat → List Nat) (i : Nat) (ks : List Nat) : Nat → List Nat := fun j => if j = i then ks else G j
theorem YR.alloc (h : YR w0 O P M X T Q lim tk kn rs es ns fs G w) (rep : Nat) (ksA : Option Addr) (ksn ksc : Nat) (ah be : Int) (ks : List Nat) (hk : KX w (.slice ksA ksn ksc) ks) (hf : ns.length - fs.length < lim) :
    Calls Tryz.prog 92 #[.pointer (some ⟨Q, 0, none⟩), Yp.ndv rep ksA ksn ksc ah be] w fun e w' => ∃ i ns2 fs2, e = .returned (.tuple #[.int .i64 ((i : Nat) : Int), .bool true]) ∧ AllocF ns fs ⟨rep, ksA, ksn, ksc, ah, be⟩ i ns2 fs2 ∧ YR w0 O P M X T Q lim tk kn rs es ns2 fs2 (upd G i ks) w' := by
  have h9 := h
  obtain ⟨O', hT, hC, hO⟩ := h
  have hT9 := hT
  obtain ⟨OX, r, c, seed, Qt, Mt, n, pr, An, cn, Af, cf, hb, rfl⟩ := hT
  obtain ⟨i, ns2, fs2, g1, g2, g3, g4, g5, _, g7⟩ := Yp.q_alloc w Q M lim cn cf An Af ns fs hb.po rep ksA ksn ksc ah be hf
  refine g7.mono ?_
  rintro e w' ⟨he, hs⟩
  have hs9 := hs
  obtain ⟨An', cn', Af', cf', h1, b, hq⟩ := hb.pool (G' := upd G i ks) hs (fun j hj ht => by
    by_cases hji : j = i
    · subst hji
      rw [List.getElem?_eq_getElem hj] at g3
      injection g3 with g3
      rw [g3]
      have q := hT9.kfree_kx (x := ⟨rep, ksA, ksn, ksc, ah, be⟩) hk
      refine ⟨?_, fun a ha ho => q.2 a ha (.inr (.inr (.inl ho)))⟩
      unfold upd
      rw [if_pos rfl]
      exact hk
    · have g4' := g4 j hji
      rw [List.getElem?_eq_getElem hj] at g4'
      have hkx := hT9.kx (j := j) (x := ns2[j].1) (by rw [← g4', ← ht])
      have q := hT9.kfree_kx hkx
      refine ⟨?_, fun a ha ho => q.2 a ha (.inr (.inr (.inl ho)))⟩
      unfold upd
      rw [if_neg hji]
      exact hkx)
  refine ⟨i, ns2, fs2, he, ⟨g1, g2, g3, g4, g5, ?_⟩, YR.step hC hO h1 (b.mono (fun j hj => .inr (.inr (.inr (.inr hj))))) (pool_yw hq hC.size)⟩
  obtain ⟨_, _, _, _, hp', _⟩ := hs9
  have := hp'.ns_le
  have := hp'.lim_le
  omega
theorem YR.put (h : YR w0 O P M X T Q lim tk kn rs es ns fs G w) (k v : Nat) (hk : k < 18446744073709551616) (hv : v < 18446744073709551616) (he : ∀ x ∈ es, x.1 ≠ (0, k)) (hes : es.length < 1000000) :
    Calls Tryz.prog 94 #[.pointer (some ⟨T, 0, none⟩), .agg #[.int .u8 0, .int .u64 (k : Int)], .int .u64 (v : Int)] w fun e w' => e = .returned (.bool true) ∧ YR w0 O P M X T Q lim tk kn rs (((0, k), v) :: es) ns fs G w' :=
  h.tabs fun Qt Mt seed n pr ht => (Hs.tab_put_no w T Qt Mt seed n pr 0 es ht (0, k) (show (0 : Nat) < 256 by decide) hk v hv he hes).mono fun e w' ⟨h1, h2⟩ => ⟨h1, _, h2⟩
theorem YR.drop (h : YR w0 O P M X T Q lim tk kn rs es ns fs G w) (k v : Nat) (es' : Es) (he : es.Perm (((0, k), v) :: es')) (hes : es'.length < 1000000) :
    Calls Tryz.prog 101 #[.pointer (some ⟨T, 0, none⟩), .agg #[.int .u8 0, .int .u64 (k : Int)]] w fun e w' => e = .returned (.bool true) ∧ YR w0 O P M X T Q lim tk kn rs es' ns fs G w' :=
  h.tabs fun Qt Mt seed n pr ht => (Hs.tab_drop_yes w T Qt Mt seed n pr 0 es es' ht (0, k) (show (0 : Nat) < 256 by decide) v he hes).mono fun e w' ⟨h1, h2⟩ => ⟨h1, _, h2⟩
end
end Go.Proofs.YtialjokdaniofaaGreat
end
section
namespace Go.Proofs.YtialjokdaniofaaGreat
set_option maxRecDepth 20000
open Go.RowKit
section
variable {w0 w : World} {O : Nat → Prop} {P M X T Q lim tk : Nat} {kn : Int} {rs : List Nat} {es : Es} {ns : List (Yp.Nd × Bool)} {fs : List Nat} {G : Nat → List Nat}
set_option maxHeartbeats 2000000 in
theorem y_begin1 {OX : Nat → Prop} {r c : Int} {seed Qt Mt n pr : Nat} {An : Option Addr} {cn : Nat} {Af : Option Addr} {cf : Nat} (h : YB w P M X T Q lim tk kn rs es ns fs G OX r c seed Qt Mt n pr An cn Af cf) (rep : Nat) (hk : rep < 18446744073709551616) (b2 b5 : Nat) (z1 z2 z3 : Value)
    (h2 : w.heap[b2]? = some (.cells #[.pointer (some ⟨P, 0, none⟩)] 26 (0, 0))) (h5 : w.heap[b5]? = some (.cells #[.int .u64 (rep : Int), z1, z2, z3] 74 (0, 0))) (hn2 : ¬ OX b2) (hn5 : ¬ OX b5) :
    Calls Tryz.prog 96 #[.pointer (some ⟨b2, 0, none⟩), .pointer (some ⟨b5, 0, none⟩)] w fun e w' => e = .returned (.tuple #[]) ∧
      ∃ t OX' r' c', (t ≤ 100 ∨ t = 2000000) ∧ XG r c w' X (K.inL K.xfast rs lim rep) lim t OX' ∧ YB w' P M X T Q lim tk kn (K.inL K.xfast rs lim rep) es ns fs G OX' r' c' seed Qt Mt n pr An cn Af cf ∧ K.Chg w w' OX ∧ ∀ j, OX' j → OX j ∨ w.heap.size ≤ j := by
  have c2 := cell_of_row w b2 0 _ _ (0, 0) h2
  have c5 := cell_of_row w b5 0 _ _ (0, 0) h5
  have cP := cell_of_row w P 1 _ _ (0, 0) h.row
  simp at c2 c5 cP
  have hyd : YB w.drew P M X T Q lim tk kn rs es ns fs G OX r c seed Qt Mt n pr An cn Af cf := h.drewN 1
  have HP := Lib.hid (xg_insert hyd.xg rep hk)
  have HN := Lib.hid (And.intro hn2 hn5)
  have HL := Lib.hid (And.intro (row_lt h2) (row_lt h5))
  have HY := Lib.hid hyd
  have HS0 := Lib.hid (And.intro (show w.drew.cell? ⟨b2, 0, none⟩ = some (.pointer (some ⟨P, 0, none⟩)) from c2) (And.intro (show w.drew.cell? ⟨b5, 0, none⟩ = some (.int .u64 (rep : Int)) from c5) (show w.drew.cell? ⟨P, 1, none⟩ = some (.pointer (some ⟨X, 0, none⟩)) from cP)))
  clear h h2 h5 c2 c5 cP hyd hn2 hn5
  go_enter Tryz.func96, Tryz.ntmps96
  go_wp2
  go_region_held3 (fun Y => Y.cell? ⟨b2, 0, none⟩ = some (.pointer (some ⟨P, 0, none⟩)) ∧ Y.cell? ⟨b5, 0, none⟩ = some (.int .u64 (rep : Int)) ∧ Y.cell? ⟨P, 1, none⟩ = some (.pointer (some ⟨X, 0, none⟩))) (first | (with_reducible exact HS0.out) | (with_reducible exact HS1.out) | go_keep)
    ((go_at_call 97; (with_reducible refine HP.out.mono ?_); rintro e w1 ⟨rfl, t, OX', hx, ht, hC, hO⟩
      have HS1 := Lib.hid (And.intro ((hC.cell HL.out.1 HN.out.1 0).trans HS0.out.1) (And.intro ((hC.cell HL.out.2 HN.out.2 0).trans HS0.out.2.1) ((hC.cell (row_lt HY.out.row) (fun ho => (HY.out.a1 P ho).1 rfl) 1).trans HS0.out.2.2)))
      have HX := Lib.hid hx
      have HC := Lib.hid hC
      have HO := Lib.hid hO
      clear hx ht hC hO))
  all_goals
    go_end0
    obtain ⟨r2, c2, hY1⟩ := HY.out.after HX.out HC.out HO.out
    have hd : K.Chg w w.drew OX := (chg_refl w _).drewN 1
    exact ⟨rfl, t, OX', r2, c2, xg_few HX.out, HX.out, hY1, hd.same HC.out, HO.out⟩
/-- Behind the call of begin's closure, its steps counted over. -/
theorem y_begin_carry (h : YR w0 O P M X T Q lim tk kn rs es ns fs G w) (htk : tk ≤ 100) (rep : Nat) (hk : rep < 18446744073709551616) (b2 b5 : Nat) (z1 z2 z3 : Value)
    (h2 : w.heap[b2]? = some (.cells #[.pointer (some ⟨P, 0, none⟩)] 26 (0, 0))) (h5 : w.heap[b5]? = some (.cells #[.int .u64 (rep : Int), z1, z2, z3] 74 (0, 0))) (l2 : b2 < w0.heap.size ∧ ¬ O b2) (l5 : b5 < w0.heap.size ∧ ¬ O b5) :
    Calls Tryz.prog 80 #[.pointer (some ⟨P, 0, none⟩), .func (.func 96) #[] #[.pointer (some ⟨b2, 0, none⟩), .pointer (some ⟨b5, 0, none⟩)]] w fun e w3 => e = .returned (.tuple #[]) ∧ ∃ t, t ≤ 100 ∧ YR w0 O P M X T Q lim (tk + t) kn (K.inL K.xfast rs lim rep) es ns fs G w3 := by
  obtain ⟨O', ⟨OX, r, c, seed, Qt, Mt, n, pr, An, cn, Af, cf, hy, rfl⟩, hC0, hO0⟩ := h
  refine (y_carry_begin w P M X tk 100 lim _ _ _ _ r c rs OX _ _ (fun w2 => ∃ OX' r' c', YB w2 P M X T Q lim tk kn (K.inL K.xfast rs lim rep) es ns fs G OX' r' c' seed Qt Mt n pr An cn Af cf ∧ K.Chg w w2 OX ∧ ∀ j, OX' j → OX j ∨ w.heap.size ≤ j) hy.row htk (by decide) hy.xg ?_).mono ?_
  · rintro W ⟨q, rfl⟩
    refine (y_begin1 (hy.drewN q) rep hk b2 b5 z1 z2 z3 h2 h5 (fun ho => (hO0 b2 (.inr (.inr (.inl ho)))).elim l2.2 (fun h => by omega)) (fun ho => (hO0 b5 (.inr (.inr (.inl ho)))).elim l5.2 (fun h => by omega))).mono ?_
    rintro e w2 ⟨rfl, t, OX', r', c', ht, hx, hy2, hC, hO⟩
    exact ⟨rfl, ⟨OX', r', c', hy2, ((chg_refl w _).drewN q).same hC, hO⟩, ⟨_, t, OX', ht, hx, fun ho => (hy2.a1 M ho).2.1 rfl⟩, hy2.row.trans hy.row.symm, hy2.mx⟩
  · rintro e w3 ⟨rfl, w2, t, ⟨OX', r', c', hy2, hC, hO⟩, ht, hC3, hm⟩
    refine ⟨rfl, t, ht, YR.step hC0 hO0 (hy2.met hC3 hm) ((hC.mono (fun j h => .inr (.inr (.inl h)))).same (hC3.mono (fun j e => .inr (.inl e)))) (xx_yw hO hC0.size)⟩
end
end Go.Proofs.YtialjokdaniofaaGreat
end
