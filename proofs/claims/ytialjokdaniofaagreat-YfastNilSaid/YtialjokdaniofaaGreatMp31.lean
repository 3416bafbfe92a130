/- A bucket begins, or ends: begin, end; the texts walked. A bucket ends: end; the text walked. How many prefixes a key wants of its own: told without a step; the text walked. -/
import Derived.Test.YtialjokdaniofaaGreatMp30
section
namespace Go.Proofs.YtialjokdaniofaaGreat
set_option maxRecDepth 20000
open Go.RowKit
section
variable {w0 w : World} {O : Nat → Prop} {P M X T Q lim tk : Nat} {kn : Int} {rs : List Nat} {es : Es} {ns : List (Yp.Nd × Bool)} {fs : List Nat} {G : Nat → List Nat}
/-- The cells of the box of the trie, of its parts, and of the node's box. -/
abbrev BXc (w1 : World) (P Q T b2 b5 rep : Nat) (ksA : Option Addr) (ksn ksc : Nat) (ah be : Int) : Prop :=
  w1.cell? ⟨b2, 0, none⟩ = some (.pointer (some ⟨P, 0, none⟩)) ∧ w1.cell? ⟨P, 3, none⟩ = some (.pointer (some ⟨Q, 0, none⟩)) ∧ w1.cell? ⟨P, 2, none⟩ = some (.pointer (some ⟨T, 0, none⟩)) ∧ w1.cell? ⟨b5, 0, none⟩ = some (.int .u64 (rep : Int)) ∧ w1.cell? ⟨b5, 1, none⟩ = some (.slice ksA ksn ksc) ∧ w1.cell? ⟨b5, 2, none⟩ = some (.int .i64 ah) ∧ w1.cell? ⟨b5, 3, none⟩ = some (.int .i64 be)
theorem bxc (h : YR w0 O P M X T Q lim tk kn rs es ns fs G w) {b2 b5 rep : Nat} {ksA : Option Addr} {ksn ksc : Nat} {ah be : Int} (r2 : w0.heap[b2]? = some (.cells #[.pointer (some ⟨P, 0, none⟩)] 26 (0, 0))) (r5 : w0.heap[b5]? = some (Yp.ndo rep ksA ksn ksc ah be)) (h2 : ¬ O b2) (h5 : ¬ O b5) : BXc w P Q T b2 b5 rep ksA ksn ksc ah be := by
  have p2 := (h.same (row_lt r2) h2).trans r2
  have p5 := (h.same (row_lt r5) h5).trans r5
  have k2 := cell_of_row w _ 0 _ _ (0, 0) p2
  obtain ⟨k50, k51, k52, k53⟩ := Yp.nd_cells p5
  simp at k2
  exact ⟨k2, h.c3, h.c2, k50, k51, k52, k53⟩
/-- A list of keys that was there stays. -/
theorem kx_yr (h : YR w0 O P M X T Q lim tk kn rs es ns fs G w) {A : Option Addr} {n c : Nat} {xs : List Nat} (hn : ∀ j, A.map (·.block) = some j → ¬ O j) (hk : KX w0 (.slice A n c) xs) : KX w (.slice A n c) xs := by
  obtain ⟨_, _, hC, _⟩ := h
  exact kx_chg hk hC hn
set_option maxHeartbeats 4000000 in
theorem y_begin_T (h : YT w P M X T Q lim tk kn rs es ns fs G O) (htk : tk ≤ 100) (a : Int) (rep : Nat) (hrep : rep < 18446744073709551616) (ksA : Option Addr) (ksn ksc : Nat) (ks : List Nat) (hk : KX w (.slice ksA ksn ksc) ks) (hf : ns.length - fs.length < lim) (he : ∀ x ∈ es, x.1 ≠ (0, rep)) (hes : es.length < 1000000) :
    Calls Tryz.prog 52 #[.pointer (some ⟨P, 0, none⟩), .int .i64 a, Yp.ndv rep ksA ksn ksc 0 0] w fun e w' => e = .returned (.tuple #[]) ∧ ∃ t i ns2 fs2, t ≤ 100 ∧ AllocF ns fs ⟨rep, ksA, ksn, ksc, 0, 0⟩ i ns2 fs2 ∧
      YR w O P M X T Q lim (tk + t) kn (K.inL K.xfast rs lim rep) (((0, rep), i) :: es) (Yp.seta (Yp.setb (Yp.seta (Yp.setb ns2 a i) i a) i (beh ns a)) (beh ns a) i) fs2 (upd G i ks) w' := by
  obtain ⟨W, hW⟩ : ∃ W, (w.alloc (bxP P)).alloc (Yp.ndo rep ksA ksn ksc 0 0) = W := ⟨_, rfl⟩
  have hb : Below w.heap.size w W := by rw [← hW]; exact ((Below.refl _ w).alloc (Nat.le_refl _) _).alloc (by simp) _
  have hz : W.heap.size = w.heap.size + 2 := by rw [← hW]; simp
  have r2 : W.heap[w.heap.size]? = some (.cells #[.pointer (some ⟨P, 0, none⟩)] 26 (0, 0)) := by rw [← hW]; exact (Below.heap_alloc _ _ _ (by simp)).trans (K.alloc_top _ _)
  have r5 : W.heap[w.heap.size + 1]? = some (Yp.ndo rep ksA ksn ksc 0 0) := by
    rw [← hW]
    have := K.alloc_top (w.alloc (bxP P)) (Yp.ndo rep ksA ksn ksc 0 0)
    rw [World.size_alloc] at this
    exact this
  have hlt := h.lt
  have hT := h.below hb
  have hy := YR.start hT
  have n2 : ¬ O w.heap.size := fun ho => by have := hlt.1 _ ho; omega
  have n5 : ¬ O (w.heap.size + 1) := fun ho => by have := hlt.1 _ ho; omega
  have HN := Lib.hid (And.intro n2 n5)
  have HL : Hid (w.heap.size < W.heap.size ∧ w.heap.size + 1 < W.heap.size) := Lib.hid ⟨by omega, by omega⟩
  have hbh := hy.behind a
  have hc0 := bxc hy r2 r5 n2 n5
  have c0 := hc0.1
  rw [← hW] at hbh c0
  have HB := Lib.hid hbh
  have R2 := Lib.hid r2
  have R5 := Lib.hid r5
  have HBW := Lib.hid hb
  have HK := Lib.hid (hk.below hb)
  have HKL := Lib.hid (hT.kfree_kx (x := ⟨rep, ksA, ksn, ksc, 0, 0⟩) (hk.below hb)).2
  have HE := Lib.hid he
  have hmf : ∀ (fn : Fn) (first cap : Array Value) (w : World), (Instr.makeFunc fn first cap).run Tryz.prog w = .ok (.func fn first cap) w := fun _ _ _ _ => rfl
  have HWW := Lib.hid hW
  clear h hk he hb hz hbh r2 r5 hlt hT hy n2 n5 hc0 hW
  generalize beh ns a = bh at *
  go_enter Tryz.func52, Tryz.ntmps52
  go_wp2_with (go_at_call 91; (with_reducible refine (HB.out).mono ?_); rintro e w1 ⟨rfl, h1⟩; rw [HWW.out] at h1
               have hd1 : YR W O P M X T Q lim tk kn rs es ns fs G w1.drew := h1.drewN 1
               have HS0 := Lib.hid (bxc hd1 R2.out R5.out HN.out.1 HN.out.2)
               have hk1 := kx_yr hd1 HKL.out HK.out
               have HA := Lib.hid (hd1.alloc rep ksA ksn ksc 0 0 ks hk1 hf)
               clear h1 hd1 hk1)
  go_region_held3 (fun Y => Y.cell? ⟨w.heap.size, 0, none⟩ = some (.pointer (some ⟨P, 0, none⟩)) ∧ Y.cell? ⟨P, 3, none⟩ = some (.pointer (some ⟨Q, 0, none⟩)) ∧ Y.cell? ⟨P, 2, none⟩ = some (.pointer (some ⟨T, 0, none⟩)) ∧ Y.cell? ⟨w.heap.size + 1, 0, none⟩ = some (.int .u64 (rep : Int)) ∧ Y.cell? ⟨w.heap.size + 1, 1, none⟩ = some (.slice ksA ksn ksc) ∧ Y.cell? ⟨w.heap.size + 1, 2, none⟩ = some (.int .i64 0) ∧ Y.cell? ⟨w.heap.size + 1, 3, none⟩ = some (.int .i64 0)) (first | (with_reducible exact HS0.out) | (with_reducible exact HS1.out) | go_keep)
    ((go_at_call 92; (with_reducible refine HA.out.mono ?_); rintro e w2 ⟨i, ns2, fs2, rfl, hF, h2⟩
      have HS1 := Lib.hid (bxc h2 R2.out R5.out HN.out.1 HN.out.2)
      have c2 := HS1.out.1
      have H2 := Lib.hid h2
      have HJ := Lib.hid (h2.join a i)
      have HF := Lib.hid hF
      clear h2 hF))
  all_goals
    have hi := HF.out.2.2.2.2.2
    have hwi : IntKind.u64.wrap (i : Int) = (i : Int) := by rw [IntKind.wrap_u64]; omega
    go_wp2_with (first
      | (go_at_call 93; (with_reducible refine HJ.out.mono ?_); rintro e w3 ⟨rfl, h3⟩
         have c2 := (bxc h3 R2.out R5.out HN.out.1 HN.out.2).1
         have HJ2 := Lib.hid (h3.join i bh)
         clear h3)
      | (go_at_call 93; (with_reducible refine HJ2.out.mono ?_); rintro e w4 ⟨rfl, h4⟩
         have hd4 : YR W O P M X T Q lim tk kn rs es (Yp.seta (Yp.setb (Yp.seta (Yp.setb ns2 a i) i a) i bh) bh i) fs2 (upd G i ks) w4.drew := h4.drewN 1
         have HS2 := Lib.hid (bxc hd4 R2.out R5.out HN.out.1 HN.out.2)
         have H4 := Lib.hid hd4
         clear h4 hd4))
  go_region_held3 (fun Y => Y.cell? ⟨w.heap.size, 0, none⟩ = some (.pointer (some ⟨P, 0, none⟩)) ∧ Y.cell? ⟨P, 3, none⟩ = some (.pointer (some ⟨Q, 0, none⟩)) ∧ Y.cell? ⟨P, 2, none⟩ = some (.pointer (some ⟨T, 0, none⟩)) ∧ Y.cell? ⟨w.heap.size + 1, 0, none⟩ = some (.int .u64 (rep : Int)) ∧ Y.cell? ⟨w.heap.size + 1, 1, none⟩ = some (.slice ksA ksn ksc) ∧ Y.cell? ⟨w.heap.size + 1, 2, none⟩ = some (.int .i64 0) ∧ Y.cell? ⟨w.heap.size + 1, 3, none⟩ = some (.int .i64 0)) (first | (with_reducible exact HS2.out) | (with_reducible exact HS3.out) | (with_reducible exact HS4.out) | go_keep) (first
    | (go_at_call 95; (with_reducible refine (y_name _ rep).mono ?_); rintro e w5 ⟨rfl, hb5⟩
       have h5 := H4.out.below hb5
       have HS3 := Lib.hid (bxc h5 R2.out R5.out HN.out.1 HN.out.2)
       have HP := Lib.hid (h5.put rep i hrep (by omega) HE.out hes)
       clear hb5 h5)
    | (go_at_call 94; (with_reducible refine HP.out.mono ?_); rintro e w6 ⟨rfl, h6⟩
       have HS4 := Lib.hid (bxc h6 R2.out R5.out HN.out.1 HN.out.2)
       have c2 := HS4.out.1
       have HC := Lib.hid (y_begin_carry h6 htk rep hrep w.heap.size (w.heap.size + 1) _ _ _ ((h6.same HL.out.1 HN.out.1).trans R2.out) ((h6.same HL.out.2 HN.out.2).trans R5.out) ⟨HL.out.1, HN.out.1⟩ ⟨HL.out.2, HN.out.2⟩)
       clear h6))
  all_goals
    go_wp2_with (go_at_call 80; (with_reducible refine HC.out.mono ?_); rintro e w7 ⟨rfl, t, ht, h7⟩
                 have HR := Lib.hid h7
                 have Ht := Lib.hid ht
                 clear h7 ht)
    go_end0
    exact ⟨rfl, t, i, ns2, fs2, Ht.out, HF.out, YR.trans (K.Chg.of_below HBW.out) (fun j hj => .inl hj) HR.out⟩
theorem y_begin (h : YR w0 O P M X T Q lim tk kn rs es ns fs G w) (htk : tk ≤ 100) (a : Int) (rep : Nat) (hrep : rep < 18446744073709551616) (ksA : Option Addr) (ksn ksc : Nat) (ks : List Nat) (hk : KX w (.slice ksA ksn ksc) ks) (hf : ns.length - fs.length < lim) (he : ∀ x ∈ es, x.1 ≠ (0, rep)) (hes : es.length < 1000000) :
    Calls Tryz.prog 52 #[.pointer (some ⟨P, 0, none⟩), .int .i64 a, Yp.ndv rep ksA ksn ksc 0 0] w fun e w' => e = .returned (.tuple #[]) ∧ ∃ t i ns2 fs2, t ≤ 100 ∧ AllocF ns fs ⟨rep, ksA, ksn, ksc, 0, 0⟩ i ns2 fs2 ∧
      YR w0 O P M X T Q lim (tk + t) kn (K.inL K.xfast rs lim rep) (((0, rep), i) :: es) (Yp.seta (Yp.setb (Yp.seta (Yp.setb ns2 a i) i a) i (beh ns a)) (beh ns a) i) fs2 (upd G i ks) w' := by
  obtain ⟨O', hT, hC, hO⟩ := h
  refine (y_begin_T hT htk a rep hrep ksA ksn ksc ks hk hf he hes).mono ?_
  rintro e w' ⟨he', t, i, ns2, fs2, ht, hF, hy⟩
  exact ⟨he', t, i, ns2, fs2, ht, hF, YR.trans hC hO hy⟩
end
end Go.Proofs.YtialjokdaniofaaGreat
end
section
namespace Go.Proofs.YtialjokdaniofaaGreat
set_option maxRecDepth 20000
open Go.RowKit
section
variable {w0 w : World} {O : Nat → Prop} {P M X T Q lim tk : Nat} {kn : Int} {rs : List Nat} {es : Es} {ns : List (Yp.Nd × Bool)} {fs : List Nat} {G : Nat → List Nat}
theorem YR.free (h : YR w0 O P M X T Q lim tk kn rs es ns fs G w) (i : Nat) (hi : Yp.lvq ns (i : Int) = true) :
    Calls Tryz.prog 100 #[.pointer (some ⟨Q, 0, none⟩), .int .i64 (i : Int)] w fun e w' => e = .returned (.bool true) ∧ YR w0 O P M X T Q lim tk kn rs es (ns.set i (Yp.Nd.z, false)) (fs ++ [i]) G w' := by
  obtain ⟨k, e, hk, e2⟩ := Yp.lvq_form hi
  obtain rfl : k = i := by omega
  refine h.pool (fun O' j hj hT ht => ?_) (fun An cn Af cf h3 hl hq hp hm => Yp.q_free w Q M lim cn cf An Af ns fs hp k hk (by rw [e2]))
  have hj' : j < ns.length := by simpa using hj
  by_cases hjk : k = j
  · subst hjk
    simp at ht
  · rw [List.getElem_set_ne hjk] at ht ⊢
    exact hT.kfree hj' ht
end
end Go.Proofs.YtialjokdaniofaaGreat
end
section
namespace Go.Proofs.YtialjokdaniofaaGreat
open Go.RowKit
set_option linter.unusedSectionVars false
section
variable [Gh]
abbrev peekv (Xb : Nat) : Value := .func (.func 122) #[.pointer (some ⟨Xb, 0, none⟩)] #[]
set_option maxHeartbeats 4000000 in
theorem x_searchp (w : World) (Xb C Q M P lim tk : Nat) (L : LL) (es : Es) (O : Nat → Prop) (h : XT w Xb C Q M P lim tk L es O) (hTE : X.TE 0 L L es) (hp : ∀ x ∈ L, x.1 < 1048576) (k : Nat) :
    Calls Tryz.prog 121 #[.pointer (some ⟨Xb, 0, none⟩), .int .u64 (k : Int), peekv Xb] w fun e w' => e = .returned (spv ((X.sc L k : Int) - 1) (X.fst' (X.spl L k (X.sc L k))) (X.lst' (X.spl L k (X.sc L k)))) ∧ ∃ t, t ≤ 7 ∧ XR w O Xb C Q M P lim tk L es w' := by
  obtain ⟨W0, hW0⟩ : ∃ W0, (w.alloc (.cells #[.int .i64 0, .int .i64 0, .int .i64 0] 163)).alloc (.cells #[.int .i64 (-1), .int .i64 0, .int .i64 0] 163) = W0 := ⟨_, rfl⟩
  have hb0 : Below w.heap.size w W0 := by rw [← hW0]; exact ((Below.refl _ w).alloc (Nat.le_refl _) _).alloc (by simp) _
  have hz0 : W0.heap.size = w.heap.size + 2 := by rw [← hW0]; simp
  have r6 : W0.heap[w.heap.size]? = some (spo 0 0 0) := by rw [← hW0]; exact (Below.heap_alloc _ _ _ (by simp)).trans (K.alloc_top _ _)
  have r7 : W0.heap[w.heap.size + 1]? = some (spo (-1) 0 0) := by
    rw [← hW0]
    have := K.alloc_top (w.alloc (.cells #[.int .i64 0, .int .i64 0, .int .i64 0] 163)) (.cells #[.int .i64 (-1), .int .i64 0, .int .i64 0] 163)
    rw [World.size_alloc] at this
    exact this
  have hlt := h.lt
  have h0 := h.chg (K.Chg.of_below (O := fun _ => False) hb0) (fun _ _ h => h)
  have hc65 := X.sc_le L k
  obtain ⟨c, hc⟩ : ∃ c, X.sc L k = c := ⟨_, rfl⟩
  have HC := Lib.hid hc
  rw [hc] at hc65 ⊢
  have H0 := Lib.hid h0
  have HLT := Lib.hid hlt
  have HB0 := Lib.hid hb0
  have R6 := Lib.hid r6
  have R7 := Lib.hid r7
  have HZ0 := Lib.hid hz0
  have HTE := Lib.hid hTE
  have HP := Lib.hid hp
  have HW0 := Lib.hid hW0
  clear hW0
  clear h hb0 r6 r7 hlt h0 hc hTE hp hz0
  go_enter Tryz.func121, Tryz.ntmps121
  go_wp2
  rw [HW0.out]
  go_loopw [8] (fun bv wr => ∃ (a b t : Nat) (O' : Nat → Prop), bv = .int .i64 (b : Int) ∧ a ≤ c ∧ c ≤ b ∧ b ≤ 65 ∧ t ≤ 7 ∧ Hid (b - a < 2 ^ (7 - t)) ∧ Hid (XT wr Xb C Q M P lim tk L es O') ∧ Hid (K.Chg W0 wr (fun j => O j ∨ j = w.heap.size + 1)) ∧ Hid (∀ j, O' j → O j ∨ W0.heap.size ≤ j) ∧ Hid (wr.heap[w.heap.size + 1]? = some (spo ((a : Int) - 1) (X.fst' (X.spl L k a)) (X.lst' (X.spl L k a)))))
    (fun bv wr => match wr.cell? ⟨w.heap.size + 1, 0, none⟩ with | some (.int _ s) => (intOf bv - s).toNat | _ => 0)
  case atStart => exact ⟨0, 65, 0, O, rfl, by omega, hc65, by omega, by omega, Lib.hid (by decide), H0, Lib.hid (chg_refl W0 _), Lib.hid (fun j hj => .inl hj), R7⟩
  case round =>
    obtain ⟨a, b, t, O', rfl, hac, hcb, hb, ht, hgap, hT, hCh, hI, hR⟩ := hrel
    have hz := HZ0.out
    have hcs := hCh.out.size
    obtain ⟨k0, k1, k2⟩ := spo_cells hR.out
    have f0 := frozen_of_row wr _ 0 _ _ hR.out
    have f1 := frozen_of_row wr _ 1 _ _ hR.out
    have f2 := frozen_of_row wr _ 2 _ _ hR.out
    have hO7 : ¬ O' (w.heap.size + 1) := fun hj => by
      rcases hI.out _ hj with h | h
      · have := HLT.out _ h; omega
      · omega
    obtain ⟨s, hs⟩ : ∃ s : Int, (a : Int) - 1 = s := ⟨_, rfl⟩
    rw [hs] at k0
    have w1 : IntKind.i64.wrap ((b : Int) - s) = (b : Int) - s := IntWalk.i64_in _ (by omega)
    generalize hf1 : X.fst' (X.spl L k a) = e1 at *
    generalize hf2 : X.lst' (X.spl L k a) = e2 at *
    have HS := Lib.hid hs
    rcases Nat.lt_or_ge a b with hab | hab
    · have g1 : decide ((1 : Int) < (b : Int) - s) = true := decide_eq_true (by omega)
      obtain ⟨m, hm⟩ : ∃ m, (a + b - 1) / 2 = m := ⟨_, rfl⟩
      have w2 : IntKind.i64.wrap (s + (b : Int)) = s + (b : Int) := IntWalk.i64_in _ (by omega)
      have w3 : (s + (b : Int)) / 2 = (m : Int) := by omega
      have w4 : (s + (b : Int)).tdiv 2 = (m : Int) := by rw [Int.tdiv_eq_ediv_of_nonneg (by omega)]; exact w3
      have w5 : IntKind.i64.wrap (m : Int) = (m : Int) := IntWalk.i64_in _ (by omega)
      have hm1 : a ≤ m ∧ m < b := by omega
      have hm64 : m ≤ 64 := by omega
      have hpre := fun W => Lib.hid (x_prefix W k m hm64)
      have hpw := X.pow_half (b - a) t hgap.out (by omega)
      have hgm : Hid (b - (m + 1) < 2 ^ (7 - (t + 1)) ∧ m - a < 2 ^ (7 - (t + 1))) := Lib.hid (by constructor <;> omega)
      have ht7 := hpw.1
      have hte := X.tells_of HTE.out (l := m) (p := X.pf m k) hm64 (S := X.sg L m (X.pf m k)) (by simp)
      have ha1 := X.fst_lt HP.out m (X.pf m k)
      have ha2 := X.lst_lt HP.out m (X.pf m k)
      have hask := fun W (hW : XT W Xb C Q M P lim tk L es O') => Lib.hid (x_peek W Xb C Q M P lim tk L es O' hW m (X.pf m k) _ _ _ (by omega) hte ha1 ha2)
      clear hpw hm hs
      obtain ⟨x1, hx1⟩ : ∃ x1, X.fst' (X.sg L m (X.pf m k)) = x1 := ⟨_, rfl⟩
      obtain ⟨x2, hx2⟩ : ∃ x2, X.lst' (X.sg L m (X.pf m k)) = x2 := ⟨_, rfl⟩
      have HX12 := Lib.hid (And.intro hx1 hx2)
      rw [hx1, hx2] at hask
      have HFIN : Hid (∀ (Wa Wb : World) (O2 : Nat → Prop), XT Wa Xb C Q M P lim tk L es O2 → K.Chg wr Wa (fun _ => False) ∨ True → True) := Lib.hid (fun _ _ _ _ _ => trivial)
      clear HFIN
      by_cases hin : m < c
      · have hne : X.sg L m (X.pf m k) ≠ [] := X.sc_yes (by rw [HC.out]; exact hin)
        have hspl : X.spl L k (m + 1) = X.sg L m (X.pf m k) := by unfold X.spl; rw [if_neg (by omega), Nat.add_sub_cancel]
        have HSPL := Lib.hid hspl
        rw [decide_eq_true hne] at hask
        clear hne hspl hte hx1 hx2 ha1 ha2
        generalize X.pf m k = q at *
        go_wp2_with (first
          | (go_at_call 137; (with_reducible refine (hpre _).out.mono ?_); rintro e w2 ⟨rfl, hb2⟩
             have h2 := hT.out.chg (K.Chg.of_below (O := fun _ => False) hb2) (fun _ _ h => h)
             have HA := Lib.hid ((hask w2 h2).out)
             have HB2 := Lib.hid hb2
             clear hb2 h2)
          | (go_at_call 122; (with_reducible refine HA.out.mono ?_); rintro e w3 ⟨rfl, O3, hT3, hC3, hI3⟩
             have hs2 := HB2.out.size
             have hs3 := hC3.size
             have hz := HZ0.out
             have z7 := (hC3.block (w.heap.size + 1) (by omega) hO7).trans ((HB2.out.block (w.heap.size + 1) (row_lt hR.out)).trans hR.out)
             have z7' : (w3.alloc (endo (.int .i64 (x1 : Int)) (.int .i64 (x2 : Int)))).heap[w.heap.size + 1]? = some (spo s e1 e2) := (Below.heap_alloc _ _ _ (row_lt z7)).trans (by rw [z7, HS.out])
             have n3 : ¬ O3 (w.heap.size + 1) := fun hj => by
               rcases hI3 _ hj with h | h
               · exact hO7 h
               · omega
             have y0 := frozen_of_row _ _ 0 _ _ z7'
             have y1 := frozen_of_row _ _ 1 _ _ z7'
             have y2 := frozen_of_row _ _ 2 _ _ z7'
             obtain ⟨v0, v1, v2⟩ := spo_cells z7'
             have hT3' := hT3.chg (chg_alloc w3 (endo (.int .i64 (x1 : Int)) (.int .i64 (x2 : Int))) (fun _ => False)) (fun _ _ h => h)
             have hC3' : K.Chg W0 (w3.alloc (endo (.int .i64 (x1 : Int)) (.int .i64 (x2 : Int)))) (fun j => O j ∨ j = w.heap.size + 1) := ((hCh.out.same (K.Chg.of_below HB2.out)).trans hC3 (fun j hj => (hI.out j hj).imp .inl id)).same (chg_alloc _ _ _)
             have HT3 := Lib.hid hT3'
             have HC3 := Lib.hid hC3'
             have HI3 : Hid (∀ j, O3 j → O j ∨ W0.heap.size ≤ j) := Lib.hid (fun j hj => by
               rcases hI3 j hj with h | h
               · exact hI.out j h
               · exact .inr (by omega))
             have HR3 := Lib.hid z7'
             have HN3 := Lib.hid n3
             clear hT3 hC3 hI3 z7 z7' n3 hs2 hs3 hz hT3' hC3'))
        have hz := HZ0.out
        have hset := chg3 (w3.alloc (endo (.int .i64 (x1 : Int)) (.int .i64 (x2 : Int)))) (w.heap.size + 1) (.int .i64 (m : Int)) (.int .i64 (x1 : Int)) (.int .i64 (x2 : Int))
        have hrow := row3 (w := w3.alloc (endo (.int .i64 (x1 : Int)) (.int .i64 (x2 : Int)))) HR3.out (.int .i64 (m : Int)) (.int .i64 (x1 : Int)) (.int .i64 (x2 : Int))
        have hT4 := HT3.out.chg hset (fun j hj e => by have e2 : j = w.heap.size + 1 := e; subst e2; exact HN3.out hj)
        have hC4 := HC3.out.trans hset (fun j e => .inl (.inr e))
        have hk0 : ((((w3.alloc (endo (.int .i64 (x1 : Int)) (.int .i64 (x2 : Int)))).setCell ⟨w.heap.size + 1, 0, none⟩ (.int .i64 (m : Int))).setCell ⟨w.heap.size + 1, 1, none⟩ (.int .i64 (x1 : Int))).setCell ⟨w.heap.size + 1, 2, none⟩ (.int .i64 (x2 : Int))).cell? ⟨w.heap.size + 1, 0, none⟩ = some (.int .i64 (m : Int)) := cell_of_row _ _ 0 _ _ (0, 0) hrow
        have HT4 := Lib.hid hT4
        have HC4 := Lib.hid hC4
        have HROW := Lib.hid hrow
        clear hrow hT4 hC4 hset
        go_roundw
        case rel =>
          refine ⟨m + 1, b, t + 1, O3, rfl, by omega, hcb, hb, by omega, Lib.hid hgm.out.1, HT4, HC4, HI3, Lib.hid ?_⟩
          rw [HSPL.out, HX12.out.1, HX12.out.2, show ((m + 1 : Nat) : Int) - 1 = (m : Int) by omega]
          exact HROW.out
        case measure =>
          rw [hk0, k0]
          have := HS.out
          simp only [intOf]
          omega
      · have hne : X.sg L m (X.pf m k) = [] := X.sc_no (by rw [HC.out]; omega) hm64
        rw [decide_eq_false (fun h => h hne)] at hask
        clear hne hte hx1 hx2 ha1 ha2
        generalize X.pf m k = q at *
        go_wp2_with (first
          | (go_at_call 137; (with_reducible refine (hpre _).out.mono ?_); rintro e w2 ⟨rfl, hb2⟩
             have h2 := hT.out.chg (K.Chg.of_below (O := fun _ => False) hb2) (fun _ _ h => h)
             have HA := Lib.hid ((hask w2 h2).out)
             have HB2 := Lib.hid hb2
             clear hb2 h2)
          | (go_at_call 122; (with_reducible refine HA.out.mono ?_); rintro e w3 ⟨rfl, O3, hT3, hC3, hI3⟩
             have hs2 := HB2.out.size
             have hs3 := hC3.size
             have hz := HZ0.out
             have z7 := (hC3.block (w.heap.size + 1) (by omega) hO7).trans ((HB2.out.block (w.heap.size + 1) (row_lt hR.out)).trans hR.out)
             have z7' : (w3.alloc (endo (.int .i64 (x1 : Int)) (.int .i64 (x2 : Int)))).heap[w.heap.size + 1]? = some (spo s e1 e2) := (Below.heap_alloc _ _ _ (row_lt z7)).trans (by rw [z7, HS.out])
             have n3 : ¬ O3 (w.heap.size + 1) := fun hj => by
               rcases hI3 _ hj with h | h
               · exact hO7 h
               · omega
             have y0 := frozen_of_row _ _ 0 _ _ z7'
             have y1 := frozen_of_row _ _ 1 _ _ z7'
             have y2 := frozen_of_row _ _ 2 _ _ z7'
             obtain ⟨v0, v1, v2⟩ := spo_cells z7'
             have hT3' := hT3.chg (chg_alloc w3 (endo (.int .i64 (x1 : Int)) (.int .i64 (x2 : Int))) (fun _ => False)) (fun _ _ h => h)
             have hC3' : K.Chg W0 (w3.alloc (endo (.int .i64 (x1 : Int)) (.int .i64 (x2 : Int)))) (fun j => O j ∨ j = w.heap.size + 1) := ((hCh.out.same (K.Chg.of_below HB2.out)).trans hC3 (fun j hj => (hI.out j hj).imp .inl id)).same (chg_alloc _ _ _)
             have HT3 := Lib.hid hT3'
             have HC3 := Lib.hid hC3'
             have HI3 : Hid (∀ j, O3 j → O j ∨ W0.heap.size ≤ j) := Lib.hid (fun j hj => by
               rcases hI3 j hj with h | h
               · exact hI.out j h
               · exact .inr (by omega))
             have HR3 := Lib.hid z7'
             have HN3 := Lib.hid n3
             clear hT3 hC3 hI3 z7 z7' n3 hs2 hs3 hz hT3' hC3'))
        have hk0 := cell_of_row _ _ 0 _ _ (0, 0) HR3.out
        have HS2 := HS.out
        go_roundw
        case rel =>
          refine ⟨a, m, t + 1, O3, rfl, hac, by omega, by omega, by omega, Lib.hid hgm.out.2, HT3, HC3, HI3, Lib.hid ?_⟩
          rw [hf1, hf2, HS.out]
          exact HR3.out
        case measure =>
          rw [k0, show (w3.alloc (endo (.int .i64 (x1 : Int)) (.int .i64 (x2 : Int)))).cell? ⟨w.heap.size + 1, 0, none⟩ = some (.int .i64 s) from hk0]
          simp only [intOf]
          omega
    · have hca : c = a := by omega
      have g1 : decide ((1 : Int) < (b : Int) - s) = false := decide_eq_false (by omega)
      have hn6 : w.heap.size ≠ w.heap.size + 1 := by omega
      have hO6 : ¬ (O w.heap.size ∨ w.heap.size = w.heap.size + 1) := fun h => by
        rcases h with h | h
        · have := HLT.out _ h; omega
        · omega
      have z6 := (hCh.out.block w.heap.size (by omega) hO6).trans R6.out
      have y0 := frozen_of_row wr _ 0 _ _ z6
      have y1 := frozen_of_row wr _ 1 _ _ z6
      have y2 := frozen_of_row wr _ 2 _ _ z6
      obtain ⟨v0, v1, v2⟩ := spo_cells z6
      have Z6 := Lib.hid z6
      have hO6' : ¬ O' w.heap.size := fun hj => by
        rcases hI.out _ hj with h | h
        · exact hO6 (.inl h)
        · omega
      have HO6 := Lib.hid hO6'
      have HCA := Lib.hid hca
      clear hs hca z6
      go_wp2
      have hset := chg3 wr w.heap.size (.int .i64 s) (.int .i64 (e1 : Int)) (.int .i64 (e2 : Int))
      have hrow := row3 Z6.out (.int .i64 s) (.int .i64 (e1 : Int)) (.int .i64 (e2 : Int))
      refine bodyPost_ret (spot_res rfl _ _ w.heap.size _ _ _ rfl hrow) rfl ⟨?_, t, ht, O', hT.out.chg hset (fun j hj e => by have e3 : j = w.heap.size := e; subst e3; exact HO6.out hj), ?_, fun j hj => ?_⟩
      · rw [HCA.out, hf1, hf2, HS.out]
      · have c1 := (K.Chg.of_below (O := O) HB0.out).trans hCh.out (fun j hj => hj.imp id (fun e => by omega))
        exact c1.trans hset (fun j e => .inr (by have e3 : j = w.heap.size := e; omega))
      · rcases hI.out j hj with h | h
        · exact .inl h
        · exact .inr (by omega)
/-- A set after a call that leaves it as it is. -/
theorem x_need (w : World) (Xb C Q M P lim tk : Nat) (xs : List Nat) (L : LL) (es : Es) (O : Nat → Prop) (h : XS w Xb C Q M P lim tk xs L es O) (k : Nat) (hk : k < 18446744073709551616) (hf : K.fo xs k = false) :
    Calls Tryz.prog 88 #[.pointer (some ⟨Xb, 0, none⟩), .int .u64 (k : Int)] w fun e w' => e = .returned (.int .i64 ((K.xfast (K.add xs k) - K.xfast xs : Nat) : Int)) ∧ XR w O Xb C Q M P lim tk L es w' := by
  have HS := Lib.hid (x_searchp w Xb C Q M P lim tk L es O h.xt h.te h.xt.places k)
  have hfs := X.fo_sc h.ks h.up k
  have hsl := X.sc_le L k
  have hv : (if X.sc L k = 65 then 0 else 66 - X.sc L k) = K.xfast (K.add xs k) - K.xfast xs := by
    rw [if_neg (fun e => by rw [hfs.2 e] at hf; cases hf)]
    have := X.xfast_add h.ks h.up h.keys hk (fun hm => by rw [(K.fo_mem h.up k).2 hm] at hf; cases hf)
    omega
  have hne := fun W a b => Lib.hid (x_needs W (X.sc L k) a b hsl)
  rw [hv] at hne
  have c0 := h.xt.c0
  clear h hfs hv
  generalize X.fst' (X.spl L k (X.sc L k)) = e1 at *
  generalize X.lst' (X.spl L k (X.sc L k)) = e2 at *
  go_enter Tryz.func88, Tryz.ntmps88
  go_wp2_with (first
    | (go_at_call 121; (with_reducible refine HS.out.mono ?_); rintro e w1 ⟨rfl, t, ht, hx1⟩
       have HX := Lib.hid hx1
       clear hx1)
    | (go_at_call 123; (with_reducible refine (hne _ e1 e2).out.mono ?_); rintro e w2 ⟨rfl, hb2⟩))
  go_ret
  exact ⟨rfl, HX.out.more hb2⟩
end
section
variable {w0 w : World} {O : Nat → Prop} {P M X T Q lim tk : Nat} {kn : Int} {rs : List Nat} {es : Es} {ns : List (Yp.Nd × Bool)} {fs : List Nat} {G : Nat → List Nat}
/-- What only asks the trie of representatives. -/
theorem YR.xask {f : FuncId} {args : Array Value} {v : Value} (h : YR w0 O P M X T Q lim tk kn rs es ns fs G w)
    (hc : ∀ r c OX, XG r c w X rs lim 2000000 OX → Calls Tryz.prog f args w fun e w' => e = .returned v ∧ ∃ OX', XG r c w' X rs lim 2000000 OX' ∧ K.Chg w w' OX ∧ ∀ j, OX' j → OX j ∨ w.heap.size ≤ j) :
    Calls Tryz.prog f args w fun e w' => e = .returned v ∧ YR w0 O P M X T Q lim tk kn rs es ns fs G w' := by
  obtain ⟨O', ⟨OX, r, c, seed, Qt, Mt, n, pr, An, cn, Af, cf, hb, rfl⟩, hC, hO⟩ := h
  refine (hc r c OX hb.xg).mono ?_
  rintro e w' ⟨he, OX', hx, b, hi⟩
  exact ⟨he, YR.step hC hO (hb.xx b hx hi) (b.mono (fun j h => .inr (.inr (.inl h)))) (xx_yw hi hC.size)⟩
theorem YR.xneed (h : YR w0 O P M X T Q lim tk kn rs es ns fs G w) (k : Nat) (hk : k < 18446744073709551616) (hf : K.fo rs k = false) :
    Calls Tryz.prog 88 #[.pointer (some ⟨X, 0, none⟩), .int .u64 (k : Int)] w fun e w' => e = .returned (.int .i64 ((K.xfast (K.add rs k) - K.xfast rs : Nat) : Int)) ∧ YR w0 O P M X T Q lim tk kn rs es ns fs G w' :=
  h.xask fun r c OX hx => by
    letI : Gh := ⟨r, c⟩
    obtain ⟨C, Q, M, P, L, es, hs⟩ := hx
    refine (x_need w X C Q M P lim 2000000 rs L es OX hs k hk hf).mono ?_
    rintro e w' ⟨he, O', hT, hC, hO⟩
    exact ⟨he, O', ⟨C, Q, M, P, L, es, hT, hs.te, hs.ks, hs.up, hs.cnt, hs.le, hs.max, hs.few⟩, hC, hO⟩
theorem YR.xused (h : YR w0 O P M X T Q lim tk kn rs es ns fs G w) :
    Calls Tryz.prog 41 #[.pointer (some ⟨X, 0, none⟩)] w fun e w' => e = .returned (.int .i64 (K.xfast rs : Int)) ∧ YR w0 O P M X T Q lim tk kn rs es ns fs G w' :=
  h.xask fun r c OX hx => by
    letI : Gh := ⟨r, c⟩
    have hx9 := hx
    obtain ⟨C, Q, M, P, L, es, hs⟩ := hx
    refine (x_used w X C Q M P lim 2000000 rs L es OX hs).mono ?_
    rintro e w' ⟨he, hb⟩
    exact ⟨he, OX, xg_chg hx9 (K.Chg.of_below (O := fun _ => False) hb) (fun _ _ h => h), K.Chg.of_below hb, fun j hj => .inl hj⟩
theorem YR.plen (h : YR w0 O P M X T Q lim tk kn rs es ns fs G w) :
    Calls Tryz.prog 42 #[.pointer (some ⟨Q, 0, none⟩)] w fun e w' => e = .returned (.int .i64 ((ns.length - fs.length : Nat) : Int)) ∧ YR w0 O P M X T Q lim tk kn rs es ns fs G w' :=
  h.ask fun An cn Af cf _ hp => (Yp.q_len w Q M lim cn cf An Af ns fs hp).mono (by rintro e w' ⟨he, n, rfl⟩; exact ⟨he, below_drewN (Below.refl _ w) n⟩)
theorem YR.keep (h : YR w0 O P M X T Q lim tk kn rs es ns fs G w) (i : Nat) (A : Option Addr) (n c : Nat) (ks : List Nat) (hi : Yp.lvq ns (i : Int) = true) (hk : KX w (.slice A n c) ks) :
    Calls Tryz.prog 51 #[.pointer (some ⟨P, 0, none⟩), .int .i64 (i : Int), .slice A n c] w fun e w' => e = .returned (.tuple #[]) ∧ YR w0 O P M X T Q lim tk kn rs es (Yp.setk ns i A n c) fs (upd G i ks) w' :=
  h.pool (fun O' j hj hT ht => by
    obtain ⟨k, e, hk0, e2⟩ := Yp.lvq_form hi
    obtain rfl : k = i := by omega
    have hx := List.getElem?_eq_getElem hj
    generalize (Yp.setk ns (k : Int) A n c)[j] = y at ht hx ⊢
    obtain ⟨y1, y2⟩ := y
    dsimp only at ht ⊢
    subst ht
    unfold Yp.setk at hx
    rw [if_pos hi, Int.toNat_natCast, List.getElem?_set] at hx
    unfold upd
    split at hx
    · rename_i hij
      injection hx with hx
      injection hx with hx _
      subst hx
      rw [if_pos hij.symm]
      exact hT.kfree_kx hk
    · rename_i hij
      rw [if_neg (fun e => hij e.symm)]
      exact hT.kfree_kx (hT.kx hx)) (fun An cn Af cf h3 hl hq hp hm => Yp.y_keep w P Q M lim cn cf An Af ns fs h3 hl hq hp i A n c)
theorem YR.keep_no (h : YR w0 O P M X T Q lim tk kn rs es ns fs G w) (i : Int) (A : Option Addr) (n c : Nat) (hi : Yp.lvq ns i = false) :
    Calls Tryz.prog 51 #[.pointer (some ⟨P, 0, none⟩), .int .i64 i, .slice A n c] w fun e w' => e = .returned (.tuple #[]) ∧ YR w0 O P M X T Q lim tk kn rs es ns fs G w' :=
  h.pool (fun O' j hj hT ht => hT.kfree hj ht) (fun An cn Af cf h3 hl hq hp hm => by
    have q := Yp.y_keep w P Q M lim cn cf An Af ns fs h3 hl hq hp i A n c
    unfold Yp.setk at q
    rw [if_neg (by rw [hi]; decide)] at q
    exact q)
end
end Go.Proofs.YtialjokdaniofaaGreat
end
