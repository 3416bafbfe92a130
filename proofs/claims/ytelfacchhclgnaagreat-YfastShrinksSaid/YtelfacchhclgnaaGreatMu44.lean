/- What the law's own function 'all' collects of a y-fast trie, and what is left of the trie: the text walked. Each of rising keys; the text walked. The law YfastSplits; the text walked. What a law of y-fast tries keeps, behind a deletion and behind what it asks. How a slice of bytes that came in reads. What a law of y-fast tries keeps, told by its keys (written out of X22). The law YfastEmpties, walked as far as law.same's contract goes (written out of X23). law.all and law.same of a y-fast trie, told by its buckets; the law YfastEmpties whole. -/
import Derived.Test.YtelfacchhclgnaaGreatMu43
import Derived.Test.YtelfacchhclgnaaGreatMu38
import Derived.Test.YtelfacchhclgnaaGreatMu42
import Derived.Test.YtelfacchhclgnaaGreatMu01
section
namespace Go.Proofs.YtelfacchhclgnaaGreat
open Go.RowKit Go.Shelf
attribute [local go_sem] Oper.semAt_some
attribute [local simp] wide_fnY
/-- What 'all' answers, and what is left of the trie. -/
def AllY (w : World) (P M X T Q lim tk : Nat) (kn : Int) (rs : List Nat) (es : Es) (ns : List (Yp.Nd × Bool)) (fs : List Nat) (G : Nat → List Nat) (OX : Nat → Prop) (r c : Int) (seed Qt Mt : Nat) (An : Option Addr) (cn : Nat) (Af : Option Addr) (cf : Nat) (es' : List Nat) (e : Ending) (w' : World) : Prop :=
  ∃ v, e = .returned v ∧ KX w' v es' ∧ (∀ g, v.ownBlock = some g → w.heap.size ≤ g) ∧ ButS w w' (Hs.TF T Qt Mt) ∧ ∃ Qt' nn pr, YB w' P M X T Q lim tk kn rs es ns fs G OX r c seed Qt' Mt nn pr An cn Af cf ∧ (Qt' = Qt ∨ w.heap.size ≤ Qt')
set_option maxRecDepth 100000 in
set_option maxHeartbeats 4000000 in
theorem all_lawY (w : World) {P M X T Q lim tk : Nat} {kn : Int} {rs : List Nat} {es : Es} {ns : List (Yp.Nd × Bool)} {fs : List Nat} {G : Nat → List Nat} {OX : Nat → Prop} {r c : Int} {seed Qt Mt nn pr : Nat} {An : Option Addr} {cn : Nat} {Af : Option Addr} {cf : Nat} (h : YB w P M X T Q lim tk kn rs es ns fs G OX r c seed Qt Mt nn pr An cn Af cf) {BL : Yp.LL} {l : Bk.BL} (hI : Inv BL l rs es ns fs G) (hok : Bk.Ok l) (m : Nat) (hm : 0 < m) (hm2 : m ≤ 1000000) (hl : (Bk.keys l).length ≤ 100000000) :
    Calls Tryz.prog 20 #[.pointer (some ⟨P, 0, none⟩), .int .i64 (m : Int)] w (AllY w P M X T Q lim tk kn rs es ns fs G OX r c seed Qt Mt An cn Af cf ((Bk.keys l).take m)) := by
  obtain ⟨xs, hxs⟩ : ∃ xs, Bk.keys l = xs := ⟨_, rfl⟩
  obtain ⟨p, hp⟩ : ∃ p : Option Addr, some ⟨P, 0, none⟩ = p := ⟨_, rfl⟩
  rw [hxs, hp]
  rw [hxs] at hl
  obtain ⟨R0, hR0d⟩ : ∃ R0, Hs.TF T Qt Mt = R0 := ⟨_, rfl⟩
  have hTl : ∀ j, Hs.TF T Qt Mt j → j < w.heap.size := fun j hj => h.lt (.inr (.inr (.inr (.inl hj))))
  have hPr : ∀ j, j = P ∨ j = M ∨ OX j ∨ Yp.QB Q An Af j ∨ KBl ns j → j < w.heap.size ∧ ¬ Hs.TF T Qt Mt j := by
    rintro j (rfl | rfl | hj | hj | hj)
    · exact ⟨h.bP.lt, h.P_T⟩
    · exact ⟨h.bM.lt, h.M_T⟩
    · exact ⟨xg_lt h.xg j hj, (h.a1 j hj).2.2.1⟩
    · exact ⟨h.lt (.inr (.inr (.inr (.inr (.inl hj))))), fun ht => h.T_Q ht hj⟩
    · exact ⟨(h.bK hj).lt, fun ht => h.T_K ht hj⟩
  have hseq : ∀ W, Below w.heap.size w W → w.heap.size + 3 ≤ W.heap.size → W.cell? ⟨w.heap.size + 1 + 1, 0, none⟩ = some (.pointer p) →
      SeqR Fence.wide 8 Tryz.prog 76 #[.pointer (some ⟨w.heap.size + 1 + 1, 0, none⟩)] (fun y : Nat => #[Value.int .u64 ((y : Nat) : Int)]) (fun j => (j < w.heap.size + 1 ∧ ¬ R0 j) ∨ j = w.heap.size + 1 + 1) R0 (fun ys R W => ys = xs ∧ YY P M X T Q lim tk kn rs es ns fs G OX r c seed Mt An cn Af cf R W) (fun ys R W => ys <+: xs ∧ YY P M X T Q lim tk kn rs es ns fs G OX r c seed Mt An cn Af cf R W) (fun pre => pre <+: xs) W := fun W hb hs hc => by
    have hq := y_all W P M X T Q lim tk kn rs es ns fs G OX r c seed Qt Mt nn pr An cn Af cf (h.below hb) hI hok (fun j => (j < w.heap.size + 1 ∧ ¬ R0 j) ∨ j = w.heap.size + 1 + 1) (fun j hj => .inl ⟨by have := (hPr j hj).1; omega, by rw [← hR0d]; exact (hPr j hj).2⟩) (fun j hj hz => by
      rcases hz with hz | hz
      · rw [hR0d] at hj; exact hz.2 hj
      · have := hTl j hj; omega) (fun j hj => by rcases hj with hj | hj; omega; omega) 8 (w.heap.size + 1 + 1) (by omega) (.inr rfl) (by rw [hp]; exact hc)
    rw [hR0d, hxs] at hq
    exact hq
  have hYF : YFr (fun j => (j < w.heap.size + 1 ∧ ¬ R0 j) ∨ j = w.heap.size + 1 + 1) (YY P M X T Q lim tk kn rs es ns fs G OX r c seed Mt An cn Af cf) := yy_fr (fun j hj => .inl ⟨by have := (hPr j hj).1; omega, by rw [← hR0d]; exact (hPr j hj).2⟩)
  have hRl : ∀ j, R0 j → j < w.heap.size := fun j hj => hTl j (by rw [hR0d]; exact hj)
  unfold AllY
  rw [hR0d]
  have hTQ : ∀ (Qt' : Nat) (R : Nat → Prop), (∀ j, Hs.TF T Qt' Mt j → R j) → (∀ j, R j → R0 j ∨ w.heap.size ≤ j) → Qt' = Qt ∨ Qt' = T ∨ Qt' = Mt ∨ w.heap.size ≤ Qt' := fun Qt' R h1 h2 => by
    rcases h2 Qt' (h1 Qt' (.inr (.inl rfl))) with h3 | h3
    · rw [← hR0d] at h3
      rcases h3 with e | e | e
      · exact .inr (.inl e)
      · exact .inl e
      · exact .inr (.inr (.inl e))
    · exact .inr (.inr (.inr h3))
  obtain ⟨Y, hYd⟩ : ∃ Y, YY P M X T Q lim tk kn rs es ns fs G OX r c seed Mt An cn Af cf = Y := ⟨_, rfl⟩
  have hYE : ∀ R W, Y R W → (∀ j, R j → R0 j ∨ w.heap.size ≤ j) → ∃ Qt' nn pr, YB W P M X T Q lim tk kn rs es ns fs G OX r c seed Qt' Mt nn pr An cn Af cf ∧ (Qt' = Qt ∨ w.heap.size ≤ Qt') := fun R W hy hR => by
    rw [← hYd] at hy
    obtain ⟨Qt', n', p', hb, ht⟩ := hy
    refine ⟨Qt', n', p', hb, ?_⟩
    rcases hTQ Qt' R ht hR with e | e | e | e
    · exact .inl e
    · obtain ⟨h1, h2, _⟩ := @tab_rows ⟨0, 0⟩ _ _ _ _ _ _ _ _ _ hb.tab
      exact absurd e (Bt.ne (w := W) h2 h1 (by decide))
    · obtain ⟨_, h2, h3⟩ := @tab_rows ⟨0, 0⟩ _ _ _ _ _ _ _ _ _ hb.tab
      exact absurd e (Bt.ne (w := W) h2 h3 (by decide))
    · exact .inr e
  rw [hYd] at hYF
  simp only [hYd] at hseq
  clear hYd hTQ hPr hTl hxs hR0d hI hok h
  have HSEQ := Lib.hid hseq
  have HYF := Lib.hid hYF
  have HRL := Lib.hid hRl
  have HYE := Lib.hid hYE
  clear hseq hYF hRl hYE
  refine (callsIn_wide (n := 9)).1 ?_
  obtain ⟨i0, hi, hz0, hz1, hz2⟩ := info_parts u64_info
  refine callsIn_of_wp_marks Tryz.func20 rfl trivial ?_ rfl
  simp only [Tryz.ntmps20, List.size_toArray, List.length_cons, List.length_nil, Nat.reduceAdd, Nat.reduceSub, Array.replicate_succ, Array.replicate_zero, List.push_toArray, List.append_toArray, List.nil_append, List.cons_append]
  gi_wp2_with (gi_at_call 44; refine (callsIn_wide.2 (yf_all_any _ p)).mono ?_; rintro e w' ⟨rfl, rfl⟩)
  have b1 : Below w.heap.size w (w.alloc (.cells #[.int .i64 (m : Int)] 3)) := (Below.refl _ w).alloc (Nat.le_refl _) _
  have hcm : (w.alloc (.cells #[.int .i64 (m : Int)] 3)).cell? ⟨w.heap.size, 0, none⟩ = some (.int .i64 (m : Int)) := by simp
  have hs1 : (w.alloc (.cells #[.int .i64 (m : Int)] 3)).heap.size = w.heap.size + 1 := by simp
  generalize hw1 : w.alloc (.cells #[.int .i64 (m : Int)] 3) = w1 at *
  have hs2 : (w1.alloc (.cells #[.slice none 0 0] 47)).heap.size = w.heap.size + 2 := by simp; omega
  have hs3 : ((w1.alloc (.cells #[.slice none 0 0] 47)).alloc (.cells #[.pointer p] 26)).heap.size = w.heap.size + 3 := by simp; omega
  have hout : (w1.alloc (.cells #[.slice none 0 0] 47)).heap[w.heap.size + 1]? = some (.cells #[.slice none 0 0] 47 (0, 0)) := alloc_top _ _ hs1.symm
  have hout2 : ((w1.alloc (.cells #[.slice none 0 0] 47)).alloc (.cells #[.pointer p] 26)).heap[w.heap.size + 1]? = some (.cells #[.slice none 0 0] 47 (0, 0)) :=
    (Below.heap_alloc _ _ _ (by omega)).trans hout
  have hbp : ((w1.alloc (.cells #[.slice none 0 0] 47)).alloc (.cells #[.pointer p] 26)).cell? ⟨w.heap.size + 1 + 1, 0, none⟩ = some (.pointer p) :=
    cell_of_row _ _ 0 _ _ (0, 0) (alloc_top _ _ (by omega))
  have hb0 : Below (w.heap.size + 1) w1 ((w1.alloc (.cells #[.slice none 0 0] 47)).alloc (.cells #[.pointer p] 26)) :=
    (((Below.refl _ w1).alloc (by omega) _).alloc (by omega) _)
  generalize hW0 : (w1.alloc (.cells #[.slice none 0 0] 47)).alloc (.cells #[.pointer p] 26) = W0 at *
  have hO0 : Outs (w.heap.size + 1) [] (fun j => j = w.heap.size + 1) W0 := ⟨_, hout2, World.ownsRow_nil _ _ _ _, by simp [Value.ownBlock], fun j => by simp [Value.ownBlock]⟩
  have hbw0 : Below w.heap.size w W0 := b1.trans (hb0.mono (by omega))
  have hsq := HSEQ.out W0 hbw0 (by omega) hbp
  have HBW0 := Lib.hid hbw0
  have hB0 : ButS w1 W0 (fun j => R0 j ∨ w.heap.size + 1 ≤ j) := ButS.of_below hb0 (by omega)
  clear hout hout2 hs2 hW0 HSEQ
  refine wpIn_rangeR rfl (by decide) (gf := 76) (lb := #[.pointer (some ⟨w.heap.size + 1 + 1, 0, none⟩)]) rfl trivial (enters_of Tryz.func76 (by kernel_rfl) rfl)
    hsq (fun j hj => by
      have hj : (j < w.heap.size + 1 ∧ ¬ R0 j) ∨ j = w.heap.size + 1 + 1 := hj
      rcases hj with hj | hj
      · omega
      · omega) (Below.refl _ _) (fun _ => rfl)
    (fun pre O W => Outs (w.heap.size + 1) pre O W ∧ pre.length < m ∧ ButS W0 W (fun j => R0 j ∨ w.heap.size + 1 ≤ j) ∧ (∀ j, O j → j ≠ w.heap.size + 1 + 1))
    (fun c pre O W => c = .exit 0 ∧ Outs (w.heap.size + 1) pre O W ∧ pre.length = m ∧ ButS W0 W (fun j => R0 j ∨ w.heap.size + 1 ≤ j))
    (fun s a1 O W => a1 = { tmps := #[.pointer p, .int .i64 (m : Int), undef, .pointer (some ⟨w.heap.size, 0, none⟩), .slice none 0 0, .pointer (some ⟨w.heap.size + 1, 0, none⟩), .int .u64 ((s.2 : Nat) : Int), .pointer p, .func (.func 76) #[] #[.pointer (some ⟨w.heap.size + 1 + 1, 0, none⟩)], .int .u64 ((s.2 : Nat) : Int), undef, undef, undef, undef, undef, undef, undef, undef, undef], defers := [] }
      ∧ Outs (w.heap.size + 1) s.1 O W ∧ s.1.length < m ∧ ButS W0 W (fun j => R0 j ∨ w.heap.size + 1 ≤ j) ∧ (∀ j, O j → j ≠ w.heap.size + 1 + 1))
    ?hSa ?hSpa ?hI ?hIx ?hA ?hlow (fun j => j = w.heap.size + 1) (fun j hj => by omega) (fun j hj => ⟨by have := HRL.out j hj; omega, fun e => by have := HRL.out j hj; have e2 : j = w.heap.size + 1 := e; omega⟩) ⟨hO0, hm, ButS.refl _ _, fun j hj => by have hj : j = w.heap.size + 1 := hj; omega⟩ ?assign ?body ?done ?stop
  case hSa =>
    rintro ys R W W' R2 ⟨h1, h2⟩ hw hR
    refine ⟨h1, HYF.out _ _ _ _ h2 hw (fun j _ hj => ⟨fun hz => ?_, (hR j hj).1⟩)⟩
    have := (hR j hj).2
    rcases hz with hz | hz
    · omega
    · omega
  case hSpa =>
    rintro ys R W W' R2 ⟨h1, h2⟩ hw hR
    refine ⟨h1, HYF.out _ _ _ _ h2 hw (fun j _ hj => ⟨fun hz => ?_, (hR j hj).1⟩)⟩
    have := (hR j hj).2
    rcases hz with hz | hz
    · omega
    · omega
  case hI =>
    rintro pre O W W' R ⟨h1, h2, h3, hne⟩ hw hR
    exact ⟨h1.but hw (fun j hj => (hR j hj).1), h2, h3.then hw (fun j hj => by
      rcases (hR j hj).2 with h | h
      · exact .inl (.inr (by omega))
      · exact .inl (.inl h)), hne⟩
  case hIx =>
    rintro c pre O W W' R ⟨h0, h1, h2, h3⟩ hw hR
    exact ⟨h0, h1.but hw (fun j hj => (hR j hj).1), h2, h3.then hw (fun j hj => by
      rcases (hR j hj).2 with h | h
      · exact .inl (.inr (by omega))
      · exact .inl (.inl h))⟩
  case hA =>
    rintro a' s O W W' R ⟨e1, h1, h2, h3, hne⟩ hw hR
    exact ⟨e1, h1.but hw (fun j hj ho => (hR j hj).1 ho), h2, h3.then hw (fun j hj => by
      rcases (hR j hj).2 with h | h
      · exact .inl (.inr (by omega))
      · exact .inl (.inl h)), hne⟩
  case hlow =>
    rintro pre O W ⟨h1, _, _, hne⟩ j hj hz
    have := (h1.lt j hj).1
    have hz : (j < w.heap.size + 1 ∧ ¬ R0 j) ∨ j = w.heap.size + 1 + 1 := hz
    rcases hz with hz | hz
    · omega
    · exact hne j hj hz
  case assign =>
    rintro L pre x O W ⟨h1, h2, h3, hne⟩ _
    gi_wp2
    exact ⟨O, ⟨ButS.refl _ _, fun j hj => ⟨.inl hj, (h1.lt j hj).2⟩⟩, by first | trivial | rfl, h1, h2, h3, hne⟩
  case body =>
    rintro L pre x O a1 W ⟨rfl, ⟨v, hv, hrow, hvb, hO⟩, h2, h3, hne⟩
    have HNE := Lib.hid hne
    clear hne
    have hc : W.cell? ⟨w.heap.size + 1, 0, none⟩ = some v := cell_of_row _ _ 0 _ _ (0, 0) hv
    have hmc : W.cell? ⟨w.heap.size, 0, none⟩ = some (.int .i64 (m : Int)) := ((hB0.trans h3).cell (b := w.heap.size) (by omega) (fun hr => by
      rcases hr with hr | hr
      · have := HRL.out _ hr; omega
      · omega) 0).trans hcm
    have hvl : ∀ j, v.ownBlock = some j → j < W.heap.size ∧ w.heap.size + 1 ≤ j := fun j hj => own_ltG hrow hj
    have hsz := h3.size
    have HSZ := Lib.hid hsz
    have h2 : pre.length < m := h2
    have hbl : w.heap.size + 1 < W.heap.size := (Array.getElem?_eq_some_iff.1 hv).1
    have HV := Lib.hid hv
    have HR := Lib.hid hrow
    have HVB := Lib.hid hvb
    have HVL := Lib.hid hvl
    have H3 := Lib.hid h3
    have eqb := eq_testG pre.length m
    clear hv hrow hvb hvl h3
    gi_wp2_with (gi_at_builtin; refine wpListIn_append_own_at _ rfl _ _ 47 rfl (w.heap.size + 1) 22 i0 _ 1 8 Tryz.underlying47 hi hz0 hz1 hz2 rfl (by decide) v pre.length (wv pre) rfl (HR.out.alloc _) ⟨W.heap.size, 0, none⟩ 1 1 [.int .u64 ((x : Nat) : Int)] rfl rfl (cell_oneB W _ _) (by intro u hu; simp at hu; subst hu; rfl) (by unfold maxLen; omega) (by omega) (by simp; omega) ?_; intro v' w2 hown' hgrow _ hblk; obtain ⟨A', c', rfl⟩ := K.own_form hown'; have hbB := (far_blockG hgrow hbl (fun e => HVB.out e.symm)).trans HV.out; have hcb : w2.cell? ⟨w.heap.size + 1, 0, none⟩ = some v := cell_of_row _ _ 0 _ _ (0, 0) hbB; have hfb : w2.frozen? ⟨w.heap.size + 1, 0, none⟩ = false := (by simp [World.frozen?, hbB]); have hmb : w2.cell? ⟨w.heap.size, 0, none⟩ = some (.int .i64 (m : Int)) := (far_cellG hgrow 0 (by omega) (fun e => by have := (HVL.out _ e.symm).2; omega)).trans hmc; have HBB := Lib.hid hbB; have HOW := Lib.hid hown'; have HGR := Lib.hid hgrow; have HBL := Lib.hid hblk; clear hbB hown' hgrow hblk)
    all_goals
      have hown2 : w2.ownsRow (w.heap.size + 1) 22 1 (.slice A' (pre.length + 1) c') (pre.length + 1) (wv pre ++ [.int .u64 ((x : Nat) : Int)]) := HOW.out
      have hvb2 : (Value.slice A' (pre.length + 1) c').ownBlock ≠ some (w.heap.size + 1) := by
        intro e
        rcases HBL.out with h | h
        · rw [e] at h; exact HVB.out h.symm
        · rw [e] at h; simp at h; omega
      have hbut : ButS W (w2.setCell ⟨w.heap.size + 1, 0, none⟩ (.slice A' (pre.length + 1) c')) O := by
        refine ((but_alloc' W _ O).trans (ButS.of_grown HGR.out (fun j e => (hO j).2 (.inr e)))).trans (but_set' w2 _ 0 _ O ((hO _).2 (.inl rfl)))
      have hout : Outs (w.heap.size + 1) (pre ++ [x]) (fun j => j = w.heap.size + 1 ∨ (Value.slice A' (pre.length + 1) c').ownBlock = some j) (w2.setCell ⟨w.heap.size + 1, 0, none⟩ (.slice A' (pre.length + 1) c')) := by
        refine ⟨.slice A' (pre.length + 1) c', set_heapG HBB.out, ?_, hvb2, fun j => Iff.rfl⟩
        rw [show wv (pre ++ [x]) = wv pre ++ [.int .u64 ((x : Nat) : Int)] by simp [wv], List.length_append]
        exact (but_set' w2 (w.heap.size + 1) 0 (.slice A' (pre.length + 1) c') (· = w.heap.size + 1) rfl).own hown2 (fun k hk e => hvb2 (by rw [hk, e]))
      have hstep : OwnStep O (fun j => j = w.heap.size + 1 ∨ (Value.slice A' (pre.length + 1) c').ownBlock = some j) W (w2.setCell ⟨w.heap.size + 1, 0, none⟩ (.slice A' (pre.length + 1) c')) := by
        refine ⟨hbut, fun j hj => ⟨?_, (hout.lt j hj).2⟩⟩
        rcases hj with hj | hj
        · left; exact (hO j).2 (.inl hj)
        · rcases HBL.out with h | h
          · left; rw [hj] at h; exact (hO j).2 (.inr h.symm)
          · right; rw [hj] at h; simp at h; omega
      have hlow : ∀ j, O j → w.heap.size + 1 ≤ j := fun j hj => by
        rcases (hO j).1 hj with h | h
        · omega
        · exact (HVL.out j h).2
      have hbel : ButS W0 (w2.setCell ⟨w.heap.size + 1, 0, none⟩ (.slice A' (pre.length + 1) c')) (fun j => R0 j ∨ w.heap.size + 1 ≤ j) := H3.out.then hbut (fun j hj => .inl (.inr (hlow j hj)))
    · have hpm : pre.length + 1 = m := by assumption
      rw [hpm] at hstep hout hbel
      exact ⟨_, hstep, rfl, hout, by simp; omega, hbel⟩
    · refine ⟨_, hstep, hout, by simp at *; omega, hbel, fun j hj => ?_⟩
      rcases hj with hj | hj
      · omega
      · rcases HBL.out with h | h
        · rw [hj] at h
          exact HNE.out j ((hO j).2 (.inr h.symm))
        · rw [hj] at h; simp at h; have := HSZ.out; omega
  case done =>
    rintro D ys O W hD hnD ⟨R, ⟨rfl, hyy⟩, hRR⟩ ⟨⟨v, hv, hrow, hvb, hO⟩, h2, h3, _⟩ hK
    have hc : W.cell? ⟨w.heap.size + 1, 0, none⟩ = some v := cell_of_row _ _ 0 _ _ (0, 0) hv
    have e : ys.take m = ys := List.take_of_length_le (by omega)
    have hDl := (Array.getElem?_eq_some_iff.1 hK).1
    have hvD : v.ownBlock ≠ some D := fun h => hnD ((hO D).2 (.inr h))
    have hfin : w.heap.size + 1 ≤ W.heap.size := by have := h3.size; omega
    have hyf := HYF.out _ _ _ _ hyy (but_put W D (.deferred none)) (fun j _ hj => by
      have hj : j = D := hj
      subst hj
      refine ⟨fun hz => ?_, fun hr => ?_⟩
      · rcases hz with hz | hz
        · omega
        · omega
      · rcases hRR _ hr with h | h
        · have := HRL.out _ h; omega
        · omega)
    have hye := HYE.out _ _ hyf (fun j hj => by
      rcases hRR j hj with h | h
      · exact .inl h
      · exact .inr (by omega))
    have hvn : ∀ g, v.ownBlock = some g → w.heap.size ≤ g := fun g hg => by have := (own_ltG hrow hg).2; omega
    have hbw : ButS w (W.putObj D (.deferred none)) R0 := ((ButS.of_below (S := R0) HBW0.out (Nat.le_refl _)).then h3 (fun j hj => hj.elim .inl (fun h => .inr (by omega)))).then (but_put W D (.deferred none)) (fun j hj => .inr (by have e2 : j = D := hj; omega))
    have HYE2 := Lib.hid hye
    clear hyf hye hyy hRR
    gi_wp2
    refine ⟨by simp, .inl ⟨_, _, rfl, run_takeDeferred hK, ?_⟩⟩
    have hr' := own_baseG ((but_put W D (.deferred none)).own hrow (fun k hk h => hvD (by rw [hk, h]))) (base' := 0) (by omega)
    exact ⟨_, results_tmp rfl _ _ _, v, rfl, by rw [e]; exact hr', hvn, hbw, HYE2.out⟩
  case stop =>
    rintro D c pre O W hD hnD ⟨R, ⟨hpre, hyy⟩, hRR⟩ ⟨rfl, ⟨v, hv, hrow, hvb, hO⟩, h2, h3⟩ hK
    have hc : W.cell? ⟨w.heap.size + 1, 0, none⟩ = some v := cell_of_row _ _ 0 _ _ (0, 0) hv
    have e : xs.take m = pre := by
      rw [← h2]
      exact (List.prefix_iff_eq_take.1 hpre).symm
    have hDl := (Array.getElem?_eq_some_iff.1 hK).1
    have hvD : v.ownBlock ≠ some D := fun h => hnD ((hO D).2 (.inr h))
    have hfin : w.heap.size + 1 ≤ W.heap.size := by have := h3.size; omega
    have hyf := HYF.out _ _ _ _ hyy (but_put W D (.deferred none)) (fun j _ hj => by
      have hj : j = D := hj
      subst hj
      refine ⟨fun hz => ?_, fun hr => ?_⟩
      · rcases hz with hz | hz
        · omega
        · omega
      · rcases hRR _ hr with h | h
        · have := HRL.out _ h; omega
        · omega)
    have hye := HYE.out _ _ hyf (fun j hj => by
      rcases hRR j hj with h | h
      · exact .inl h
      · exact .inr (by omega))
    have hvn : ∀ g, v.ownBlock = some g → w.heap.size ≤ g := fun g hg => by have := (own_ltG hrow hg).2; omega
    have hbw : ButS w (W.putObj D (.deferred none)) R0 := ((ButS.of_below (S := R0) HBW0.out (Nat.le_refl _)).then h3 (fun j hj => hj.elim .inl (fun h => .inr (by omega)))).then (but_put W D (.deferred none)) (fun j hj => .inr (by have e2 : j = D := hj; omega))
    have HYE2 := Lib.hid hye
    clear hyf hye hyy hRR
    gi_wp2
    refine ⟨by simp, .inl ⟨_, _, rfl, run_takeDeferred hK, ?_⟩⟩
    have hr' := own_baseG ((but_put W D (.deferred none)).own hrow (fun k hk h => hvD (by rw [hk, h]))) (base' := 0) (by omega)
    exact ⟨_, results_tmp rfl _ _ _, v, rfl, by rw [e]; exact hr', hvn, hbw, HYE2.out⟩
end Go.Proofs.YtelfacchhclgnaaGreat
end
section
namespace Go.Proofs.YtelfacchhclgnaaGreat
set_option maxRecDepth 20000
open Go.RowKit
namespace Bk
theorem up_take {xs : List Nat} (h : K.Up xs) (j : Nat) : K.Up (xs.take j) := List.Pairwise.sublist (List.take_sublist j xs) h
theorem take_lt {xs : List Nat} (h : K.Up xs) {j : Nat} (hj : j < xs.length) : ∀ x ∈ xs.take j, x < xs[j] := fun x hx => by
  obtain ⟨i, hi, e⟩ := List.mem_take_iff_getElem.1 hx
  rw [← e]
  exact List.pairwise_iff_getElem.1 h i j (by omega) hj (by omega)
theorem add_take {xs : List Nat} (h : K.Up xs) {j : Nat} (hj : j < xs.length) : K.add (xs.take j) xs[j] = xs.take (j + 1) := by
  refine T.up_ext (K.add_up (up_take h j) _) (up_take h (j + 1)) fun x => ?_
  rw [K.add_mem (up_take h j), List.take_succ_eq_append_getElem hj, List.mem_append, List.mem_singleton]
  exact or_comm
end Bk
section
variable {w W : World} {P lim : Nat} {xs : List Nat} {S : List (Value × List Nat)}
theorem tys_cell {l : Bk.BL} {ks : List Nat} (h : TYs w W P lim l S) {g n c : Nat} (hm : (Value.slice (some ⟨g, 0, none⟩) n c, ks) ∈ S) {j z : Nat} (hj : ks[j]? = some z) : W.cell? ⟨g, j, none⟩ = some (.int .u64 (z : Int)) := by
  obtain ⟨hj1, hj2⟩ := List.getElem?_eq_some_iff.1 hj
  rcases (h.kx hm).form with ⟨e, _⟩ | ⟨g', c', e, _, _, hc⟩
  · cases e
  · cases e
    rw [← hj2]
    exact hc j hj1
set_option maxHeartbeats 1000000 in
theorem tys_each (h : TYs w W P lim [] S) (A : Option Addr) (c : Nat) (hm : (Value.slice A xs.length c, xs) ∈ S) (hu : K.Up xs) (hx : ∀ x ∈ xs, x < 18446744073709551616) (hl : xs.length ≤ 1000) (hlim : 68 * xs.length ≤ lim) :
    Calls Tryz.prog 34 #[.pointer (some ⟨P, 0, none⟩), .slice A xs.length c] W fun e w' => e = .returned (.int .i64 (xs.length : Int)) ∧ ∃ l', Bk.keys l' = xs ∧ Bk.Sp l' ∧ TYs w w' P lim l' S := by
  have HXU := Lib.hid (And.intro hu hx)
  obtain ⟨n, hn⟩ : ∃ n, xs.length = n := ⟨_, rfl⟩
  rw [hn] at hm hl hlim ⊢
  have HN := Lib.hid hn
  have HM := Lib.hid hm
  have H0 : Hid (Bk.keys [] = xs.take 0 ∧ Bk.Sp [] ∧ TYs w W P lim [] S) := Lib.hid ⟨rfl, .inl rfl, h⟩
  clear h hu hx hm hn
  go_enter Tryz.func34, Tryz.ntmps34
  go_wp2
  go_loopw [5, 10] (fun acc ix wr => ∃ (j : Nat) (l : Bk.BL), j ≤ n ∧ acc = .int .i64 (j : Int) ∧ ix = .int .i64 (j : Int) ∧ Hid (Bk.keys l = xs.take j ∧ Bk.Sp l ∧ TYs w wr P lim l S)) (fun _ ix _ => n - (intOf ix).toNat)
  case atStart => exact ⟨0, [], by omega, rfl, rfl, H0⟩
  case round =>
    obtain ⟨j, l, hj, rfl, rfl, HT⟩ := hrel
    clear H0
    rcases Nat.lt_or_ge j n with hjr | hjr
    · have hjk : j < xs.length := by rw [HN.out]; exact hjr
      have hkx := HT.out.2.2.kx HM.out
      rcases hkx.form with ⟨_, e⟩ | ⟨g, cc, hv, _, _, -⟩
      · rw [e] at hjk
        cases hjk
      injection hv with hA hn2 hc2
      clear hn2 hc2
      subst hA
      have hcell := tys_cell HT.out.2.2 HM.out (List.getElem?_eq_getElem hjk)
      have hkl := HXU.out.2 xs[j] (List.getElem_mem hjk)
      have hlt := Bk.take_lt HXU.out.1 hjk
      have had := Bk.add_take HXU.out.1 hjk
      have htk : (xs.take j).length ≤ j := List.length_take_le _ _
      generalize xs[j] = k at *
      have hins : Hid (Calls Tryz.prog 24 #[.pointer (some ⟨P, 0, none⟩), .int .u64 (k : Int)] wr fun e w' => e = .returned (.int .i64 0) ∧ ∃ l', Bk.keys l' = xs.take (j + 1) ∧ Bk.Sp l' ∧ TYs w w' P lim l' S) := Lib.hid (tys_insert HT.out.2.2 k hkl HT.out.2.1 (by rw [HT.out.1]; exact hlt) (by rw [HT.out.1]; omega) (by rw [HT.out.1]; exact had))
      have gk : (j : Int) < (n : Int) := by omega
      have wj : IntKind.i64.wrap ((j : Int) + 1) = ((j + 1 : Nat) : Int) := by rw [IntWalk.i64_in _ (by omega)]; omega
      clear hkx hkl hlt had htk hjk
      go_wp2_with (go_at_call 24; (with_reducible refine hins.out.mono ?_); rintro e w5 ⟨rfl, l5, h5⟩; have H5 := Lib.hid h5; clear h5)
      go_roundw
      case rel => exact ⟨j + 1, l5, by omega, by go_num, by go_num, H5⟩
      case measure => simp [intOf]; omega
    · obtain rfl : j = n := by omega
      have g0 : decide ((j : Int) < (j : Int)) = false := decide_eq_false (by omega)
      have HS : Hid (Bk.keys l = xs ∧ Bk.Sp l ∧ TYs w wr P lim l S) := Lib.hid (by
        have h1 := HT.out
        rw [List.take_of_length_le (by rw [HN.out]; omega)] at h1
        exact h1)
      clear HT
      go_wp2
      go_ret
      exact ⟨rfl, l, HS.out⟩
end
end Go.Proofs.YtelfacchhclgnaaGreat
end
section
namespace Go.Proofs.YtelfacchhclgnaaGreat
set_option maxRecDepth 20000
open Go.RowKit
namespace Bk
/-- Keys that rise by the same step. -/
def row (f s n : Nat) : List Nat := (List.range n).map fun i => f + i * s
end Bk
section
variable {w W : World} {P lim : Nat} {l : Bk.BL} {S : List (Value × List Nat)}
theorem tys_new (hb : Below w.heap.size w W) (sd n : Nat) (hn : n ≤ 500000) :
    Calls Tryz.prog 9 #[.int .u64 (sd : Int), .int .i64 (n : Int)] W fun e w' => ∃ P, e = .returned (.tuple #[.pointer (some ⟨P, 0, none⟩), .int .i64 0]) ∧ TYs w w' P n [] [] := by
  refine (ys_new W sd n hn).mono ?_
  rintro e w' ⟨P, O, rfl, h, hb2, hO⟩
  exact ⟨P, rfl, 0, O, h, hb.trans (hb2.mono hb.size), fun j hj => Nat.le_trans hb.size (hO j hj), fun p hp => by cases hp⟩
theorem tys_buckets (h : TYs w W P lim l S) : Calls Tryz.prog 16 #[.pointer (some ⟨P, 0, none⟩)] W fun e w' => e = .returned (.int .i64 (l.length : Int)) ∧ TYs w w' P lim l S :=
  h.op (m := fun tk => tk) fun _ _ hT => ys_buckets hT
end
end Go.Proofs.YtelfacchhclgnaaGreat
end
section
namespace Go.Proofs.YtelfacchhclgnaaGreat
open Go.RowKit
section
variable {w W : World} {P lim : Nat} {l : Bk.BL} {S : List (Value × List Nat)}
theorem tys_delete_yes (h : TYs w W P lim l S) (k : Nat) (hk : k < 18446744073709551616) (hf : K.fo (Bk.keys l) k = true) {ys : List Nat} (hys : K.drop (Bk.keys l) k = ys) :
    Calls Tryz.prog 26 #[.pointer (some ⟨P, 0, none⟩), .int .u64 (k : Int)] W fun e w' => e = .returned (.int .i64 0) ∧ ∃ l', DelTo l k l' ∧ Bk.keys l' = ys ∧ TYs w w' P lim l' S := by
  obtain ⟨tk, O, hT, hb, hO, hS⟩ := h
  refine (ys_delete hT k hk).mono ?_
  rintro e w' (⟨h1, _⟩ | ⟨_, l', h1, h2, h3⟩)
  · rw [hf] at h1
    cases h1
  · obtain ⟨he, hy⟩ := yop_tys hb hO hS h3
    exact ⟨he, l', h1, by rw [h2, hys], hy⟩
theorem tys_used (h : TYs w W P lim l S) : Calls Tryz.prog 12 #[.pointer (some ⟨P, 0, none⟩)] W fun e w' => e = .returned (.int .i64 (usedB l : Int)) ∧ TYs w w' P lim l S :=
  h.op (m := fun tk => tk) fun _ _ hT => ys_used hT
theorem tys_len (h : TYs w W P lim l S) : Calls Tryz.prog 33 #[.pointer (some ⟨P, 0, none⟩)] W fun e w' => e = .returned (.int .i64 ((Bk.keys l).length : Int)) ∧ w' = W := by
  obtain ⟨tk, O, hT, hb, hO, hS⟩ := h
  exact ys_len hT
end
end Go.Proofs.YtelfacchhclgnaaGreat
end
section
namespace Go.Proofs.YtelfacchhclgnaaGreat
open Go.RowKit
def Rby (w : World) (B : Nat) (A : Option Addr) (bs : List Nat) : Prop :=
  bs ≠ [] → ∃ b off, A = some ⟨b, off, none⟩ ∧ b < B ∧ ∀ (k : Nat) (h : k < bs.length), w.cell? ⟨b, off + k, none⟩ = some (.int .u8 (bs[k] : Nat))
theorem Rby.at {w w' : World} {B : Nat} {A : Option Addr} {bs : List Nat} (h : Rby w B A bs) (hb : Below B w w') {k : Nat} (hk : k < bs.length) : ∃ b off, A = some ⟨b, off, none⟩ ∧ w'.cell? ⟨b, off + k, none⟩ = some (.int .u8 (bs[k] : Nat)) := by
  obtain ⟨b, off, rfl, hlt, hc⟩ := h (by rintro rfl; simp at hk)
  exact ⟨b, off, rfl, (hb.cell (p := ⟨b, off + k, none⟩) hlt).trans (hc k hk)⟩
end Go.Proofs.YtelfacchhclgnaaGreat
end
section
namespace Go.Proofs.YtelfacchhclgnaaGreat
open Go.RowKit
namespace K
end K
/-- The trie at P holds xs; these lists of the law's own lie apart. -/
def TKs (w W : World) (P lim : Nat) (xs : List Nat) (S : List (Value × List Nat)) : Prop := ∃ l, Bk.keys l = xs ∧ TYs w W P lim l S
section
variable {w W W' : World} {P lim : Nat} {xs : List Nat} {S : List (Value × List Nat)}
theorem TKs.low (h : TKs w W P lim xs S) : Below w.heap.size w W := by
  obtain ⟨l, _, h⟩ := h
  exact h.low
theorem TKs.up (h : TKs w W P lim xs S) : K.Up xs := by
  obtain ⟨l, rfl, h⟩ := h
  exact h.ok.kup
theorem TKs.kx (h : TKs w W P lim xs S) {v : Value} {l : List Nat} (hm : (v, l) ∈ S) : KX W v l := by
  obtain ⟨_, _, h⟩ := h
  exact h.kx hm
theorem TKs.less (h : TKs w W P lim xs S) {S' : List (Value × List Nat)} (hs : ∀ p ∈ S', p ∈ S) : TKs w W P lim xs S' := by
  obtain ⟨l, hl, tk, O, hT, hb, hO, hS⟩ := h
  exact ⟨l, hl, tk, O, hT, hb, hO, fun p hp => hS p (hs p hp)⟩
theorem TKs.below (h : TKs w W P lim xs S) (hb : Below W.heap.size W W') : TKs w W' P lim xs S := by
  obtain ⟨l, hl, tk, O, hT, hb0, hO, hS⟩ := h
  exact ⟨l, hl, tk, O, hT.below hb, hb0.trans (hb.mono hb0.size), hO, fun p hp => ⟨(hS p hp).1.below hb, (hS p hp).2⟩⟩
theorem TKs.fresh (h : TKs w W P lim xs S) {v : Value} {l : List Nat} (hk : KX W' v l) (hb : Below W.heap.size W W') (hf : ∀ g, v.ownBlock = some g → W.heap.size ≤ g) : TKs w W' P lim xs ((v, l) :: S) := by
  obtain ⟨l0, hl, h⟩ := h
  exact ⟨l0, hl, h.fresh hk hb hf⟩
end
end Go.Proofs.YtelfacchhclgnaaGreat
end
section
namespace Go.Proofs.YtelfacchhclgnaaGreat
open Go.RowKit
section
variable (A : Option Addr) (cp : Nat) (l : List Nat) (Ab : Option Addr) (cb : Nat) (bs : List Nat) (w : World) (sd : Nat) (hr : Rw w w.heap.size A l) (hl : l.length ≤ 9223372036854775807) (hx : ∀ x ∈ l, x < 18446744073709551616) (hrb : Rby w w.heap.size Ab bs) (hlb : bs.length ≤ 9223372036854775807) (hxb : ∀ x ∈ bs, x < 256)
include hr hl hx hrb hlb hxb
end
end Go.Proofs.YtelfacchhclgnaaGreat
end
section
namespace Go.Proofs.YtelfacchhclgnaaGreat
open Go.RowKit Go.Shelf
theorem kx_rwY {w : World} {v : Value} {xs : List Nat} (h : KX w v xs) : ∃ A c, v = .slice A xs.length c ∧ Rw w w.heap.size A xs := by
  obtain ⟨A, c, h1, h2, _⟩ := Rw.of_own (h : w.ownsRow 0 22 1 v xs.length (wv xs))
  exact ⟨A, c, h1, h2⟩
section
variable {w W W' : World} {P lim : Nat} {l : Bk.BL} {S : List (Value × List Nat)}
theorem TYs.less (h : TYs w W P lim l S) {S' : List (Value × List Nat)} (hs : ∀ p ∈ S', p ∈ S) : TYs w W P lim l S' := by
  obtain ⟨tk, O, hT, hb, hO, hS⟩ := h
  exact ⟨tk, O, hT, hb, hO, fun p hp => hS p (hs p hp)⟩
theorem TYs.below (h : TYs w W P lim l S) (hb : Below W.heap.size W W') : TYs w W' P lim l S := by
  obtain ⟨tk, O, hT, hb0, hO, hS⟩ := h
  exact ⟨tk, O, hT.below hb, hb0.trans (hb.mono hb0.size), hO, fun p hp => ⟨(hS p hp).1.below hb, (hS p hp).2⟩⟩
theorem TYs.drewN (h : TYs w W P lim l S) (n : Nat) : TYs w (W.drewN n) P lim l S := h.below (⟨rfl, rfl, rfl, Nat.le_refl _, fun _ _ => rfl⟩)
theorem tys_all (h : TYs w W P lim l S) (m : Nat) (hm : 0 < m) (hm2 : m ≤ 1000000) (hl : (Bk.keys l).length ≤ 100000000) :
    Calls Tryz.prog 20 #[.pointer (some ⟨P, 0, none⟩), .int .i64 (m : Int)] W fun e w' => ∃ v, e = .returned v ∧ TYs w w' P lim l ((v, (Bk.keys l).take m) :: S) := by
  obtain ⟨tk, O, hT, hb, hO, hS⟩ := h
  obtain ⟨M, X, T, Q, rs, es, ns, fs, G, BL, hYT, hI, hok, hu⟩ := hT
  obtain ⟨OX, r, c, seed, Qt, Mt, n, pr, An, cn, Af, cf, hB, rfl⟩ := hYT
  refine (all_lawY W hB hI hok m hm hm2 hl).mono ?_
  rintro e w' ⟨v, rfl, hk, hvn, hbut, Qt', n', p', hB', hq⟩
  have hTO : ∀ j, Hs.TF T Qt Mt j → YW P M T Q Qt Mt OX An Af j := fun j hj => .inr (.inr (.inr (.inl hj)))
  have hO' := tabs_yk (P := P) (M := M) (T := T) (Q := Q) (Mt := Mt) (OX := OX) (An := An) (Af := Af) (B := W.heap.size) hq (Nat.le_refl _)
  have hYT' : YT w' P M X T Q lim tk ((Bk.keys l).length : Int) rs es ns fs G (YW P M T Q Qt' Mt OX An Af) := ⟨OX, r, c, seed, Qt', Mt, n', p', An, cn, Af, cf, hB', rfl⟩
  have hws := hb.size
  refine ⟨v, rfl, tk, _, ⟨M, X, T, Q, rs, es, ns, fs, G, BL, hYT', hI, hok, hu⟩, hb.trans (hbut.below hws (fun j hj => hO j (hTO j hj))), fun j hj => ?_, fun p hp => ?_⟩
  · rcases hO' j hj with h1 | h1
    · exact hO j h1
    · omega
  · rcases List.mem_cons.1 hp with rfl | hp
    · refine ⟨hk, fun g hg ho => ?_⟩
      obtain ⟨A, c', hv⟩ := K.own_form hk
      dsimp only at hg hk
      rw [hv] at hg hk
      have hf := hYT'.kfree_kx (x := ⟨0, A, _, c', 0, 0⟩) hk
      refine hf.2 g ?_ ho
      cases A with
      | none => simp [Value.ownBlock] at hg
      | some a => simpa [Value.ownBlock] using hg
    · obtain ⟨h1, h2⟩ := hS p hp
      refine ⟨hbut.own h1 (fun g hg hr => h2 g hg (hTO g hr)), fun g hg ho => ?_⟩
      rcases hO' g ho with h3 | h3
      · exact h2 g hg h3
      · have := (own_ltG h1 hg).1
        omega
set_option maxHeartbeats 1000000 in
theorem tys_same (h : TYs w W P lim l S) (v : Value) (ys : List Nat) (hm : (v, ys) ∈ S) (hys : Bk.keys l = ys) (hl : ys.length ≤ 100000) :
    Calls Tryz.prog 18 #[.pointer (some ⟨P, 0, none⟩), v] W fun e w' => e = .returned (.bool true) ∧ TYs w w' P lim l S := by
  have hall := tys_all h 100000 (by omega) (by omega) (by rw [hys]; omega)
  rw [List.take_of_length_le (by rw [hys]; exact hl), hys] at hall
  have HALL : Hid (Calls Tryz.prog 20 #[.pointer (some ⟨P, 0, none⟩), .int .i64 100000] W fun e w' => ∃ v, e = .returned v ∧ TYs w w' P lim l ((v, ys) :: S)) := Lib.hid hall
  obtain ⟨A', c', hv, _⟩ := kx_rwY (h.kx hm)
  subst hv
  have hsk := Lib.hid (fun (W : World) (A : Option Addr) (c : Nat) (h1 : Rw W W.heap.size A ys) (h2 : Rw W W.heap.size A' ys) => ref_samekeys A A' c c' ys ys W _ _ h1 h2 (by omega) (by omega))
  rw [show decide (ys = ys) = true from decide_eq_true rfl] at hsk
  have hlen := Lib.hid (fun (W : World) (S : List (Value × List Nat)) (h : TYs w W P lim l S) => tys_len h)
  rw [hys] at hlen
  have hrw := Lib.hid (fun (W : World) (S : List (Value × List Nat)) (h : TYs w W P lim l S) (hm : (Value.slice A' ys.length c', ys) ∈ S) => show Rw W W.heap.size A' ys from by
    obtain ⟨A2, c2, e, h⟩ := kx_rwY (h.kx hm)
    injection e with e1 _ _
    exact e1 ▸ h)
  have HM := Lib.hid hm
  have hll : ((ys.length : Int) == (ys.length : Int)) = true := by simp
  clear h hall hm
  go_enter Tryz.func18, Tryz.ntmps18
  go_wp2_with (first
    | (go_at_call 20; (with_reducible refine HALL.out.mono ?_); rintro e w1 ⟨v1, rfl, h1⟩; obtain ⟨A1, c1, rfl, hr1⟩ := kx_rwY (h1.kx (List.mem_cons_self ..)); have H1 := Lib.hid h1; have HR1 := Lib.hid hr1; have HR2 := Lib.hid (hrw.out _ _ h1 (List.mem_cons_of_mem _ HM.out)); clear h1 hr1)
    | (go_at_call 19; (with_reducible refine (hsk.out w1 A1 c1 HR1.out HR2.out).mono ?_); rintro e w2 ⟨rfl, n2, rfl⟩; have H2 := Lib.hid (H1.out.drewN n2))
    | (go_at_call 33; (with_reducible refine (hlen.out _ _ H2.out).mono ?_); rintro e w3 ⟨rfl, rfl⟩))
  go_ret
  exact ⟨rfl, H2.out.less (fun p hp => List.mem_cons_of_mem _ hp)⟩
end
section
variable (A : Option Addr) (cp : Nat) (l : List Nat) (Ab : Option Addr) (cb : Nat) (bs : List Nat) (w : World) (sd : Nat) (hr : Rw w w.heap.size A l) (hl : l.length ≤ 9223372036854775807) (hx : ∀ x ∈ l, x < 18446744073709551616) (hrb : Rby w w.heap.size Ab bs) (hlb : bs.length ≤ 9223372036854775807) (hxb : ∀ x ∈ bs, x < 256)
include hr hl hx hrb hlb hxb
end
end Go.Proofs.YtelfacchhclgnaaGreat
end
