
/- The reference frees a place; the text walked. -/
import Derived.Test.YtpgmgldhpagieaaRDo3
import Derived.Test.YtpgmgldhpagieaaPObj4
import Derived.Deep.RegionLaw
namespace Go.Proofs.Ytpgmgldhpagieaa
open Go.RowKit
section
variable {w : World} {B R lim r cv cl cf g : Nat} {Av Al Af : Option Addr} {ns : List (Nat × Bool)} {fs : List Nat}
theorem rf_setF {x : Value} (hrow : w.heap[R]? = some (.cells #[.slice Av ns.length cv, .slice Al ns.length cl, x, .int .i64 (lim : Int), .int .i64 (r : Int)] 37 (0, 0)))
    (hv : w.ownsRow B 31 1 (.slice Av ns.length cv) ns.length (vv ns)) (hlv : w.ownsRow B 4 1 (.slice Al ns.length cl) ns.length (lbv ns)) {Af' : Option Addr} {cf' : Nat} {fs' : List Nat} (hown : w.ownsRow B 3 1 (.slice Af' fs'.length cf') fs'.length (iv fs'))
    (hB : B ≤ R) (ov : Off Av R) (ol : Off Al R) (h2 : Off Af' R) (vl : Apart Av Al) (h3 : Apart Av Af') (h4 : Apart Al Af') (hin : ∀ i ∈ fs', i < ns.length) (hn : ns.length ≤ 2097152) (hle : fs'.length ≤ ns.length) :
    Rf (w.setCell ⟨R, 2, none⟩ (.slice Af' fs'.length cf')) B R lim r Av cv Al cl Af' cf' ns fs' := by
  have b := but_set w R 2 (.slice Af' fs'.length cf') (· = R) rfl
  refine ⟨?_, b.own hv ?_, b.own hlv ?_, b.own hown ?_, hB, ov, ol, h2, vl, h3, h4, hin, hn, hle⟩
  · have := set_heap hrow 2 (.slice Af' fs'.length cf')
    simpa using this
  · exact fun k hk => by cases Av with
      | none => simp [Value.ownBlock] at hk
      | some x => simp [Value.ownBlock] at hk; subst hk; exact ov x rfl
  · exact fun k hk => by cases Al with
      | none => simp [Value.ownBlock] at hk
      | some x => simp [Value.ownBlock] at hk; subst hk; exact ol x rfl
  · exact fun k hk => by cases Af' with
      | none => simp [Value.ownBlock] at hk
      | some x => simp [Value.ownBlock] at hk; subst hk; exact h2 x rfl
set_option maxRecDepth 20000 in
theorem r_do1_yes (a : Rf w B R lim r Av cv Al cl Af cf ns fs) (d : Nat) (hd : d < 256) (hr : d % 6 = 1) (i : Int) (k : Nat) (hi : i = (k : Int)) (hk : k < ns.length) (ht : ns[k].2 = true) (V : Nat) (hfl1 : fs.length + 1 ≤ ns.length) :
    Calls Try.prog 18 #[.pointer (some ⟨R, 0, none⟩), actv d i V] w fun e w' => e = .returned (.tuple #[.int .i64 0, .int .u64 0, .bool true]) ∧ RStep w B R lim r Av Al Af (ns.set k (ns[k].1, false)) (fs ++ [k]) w' := by
  subst hi
  have hl : lv ns (k : Int) = true := by unfold lv; simp [hk, ht]
  have a1 := a.alloc (acto d (k : Int) V)
  have hB0 : ButS w (w.alloc (acto d (k : Int) V)) (RB R Av Al Af) := but_alloc _ _ _
  have htk := Lib.hid (r_taken a1 (k : Int))
  rw [hl] at htk
  have e1 : ((d : Int).tmod 6) = 1 := by rw [Int.tmod_eq_emod_of_nonneg (by omega)]; omega
  have e3 : (d : Int) % 6 = 1 := by omega
  have hk2 : (k : Int).toNat = k := by omega
  have k1 : (k : Int) < (ns.length : Int) := by omega
  have hns : Hid (ns.length ≤ 2097152 ∧ fs.length ≤ ns.length ∧ fs.length + 1 ≤ ns.length) := ⟨a.ns_le, a.fs_le, hfl1⟩
  obtain ⟨w1, hw1⟩ : ∃ w1, w.alloc (acto d (k : Int) V) = w1 := ⟨_, rfl⟩
  have hD0 : w1.heap[w.heap.size]? = some (.cells #[.int .u8 (d : Int), .int .i64 (k : Int), .int .u64 (V : Int)] 39 (0, 0)) := by rw [← hw1]; exact alloc_top _ _ rfl
  have hsz : w1.heap.size = w.heap.size + 1 := by rw [← hw1]; simp
  have hlt := a.lt
  have hbl : ∀ j, RB R Av Al Af j → j < w.heap.size := fun j hj => (a.rb hj).2
  rw [hw1] at a1 hB0
  have hw1H := Lib.hid hw1
  clear hw1
  have hd1 : w1.cell? ⟨w.heap.size, 1, none⟩ = some (.int .i64 (k : Int)) := cell_of_row w1 _ 1 _ _ (0, 0) hD0
  have hBH := Lib.hid hB0
  have hDH := Lib.hid hD0
  have hc1 := a1.c1
  obtain ⟨g, rfl, hgR, hv, hfr⟩ := a1.live_at hk
  have hf := hfr k
  have hR' := Lib.hid (a1.mark hk false)
  have hgl := hbl g (.inr (.inr (.inl rfl)))
  have hblH := Lib.hid hbl
  have hszH := Lib.hid hsz
  have hBR := Lib.hid a.base
  clear a a1 hl hr hfr hsz hB0 hD0 hbl hfl1
  generalize ns[k].1 = xv at *
  clear ht
  generalize ns[k].2 = xl at *
  go_enter Try.func18, Try.ntmps18
  go_wp2_with (go_at_call 26; (with_reducible refine htk.out.mono ?_); rintro e w9 ⟨rfl, rfl⟩)
  rw [hw1H.out]
  obtain ⟨s, hs⟩ : ∃ s, w.heap.size = s := ⟨_, rfl⟩
  have hsH := Lib.hid hs
  rw [hs] at hd1 hgl hlt hDH hszH
  rw [hs]
  clear hs
  go_region
  all_goals
    go_wp2
    obtain ⟨w2, hw2⟩ : ∃ w2, (w1.setCell ⟨g, k, none⟩ (.bool false)).drew = w2 := ⟨_, rfl⟩
    have ap : Rf w2 B R lim r Av cv (some ⟨g, 0, none⟩) cl Af cf (ns.set k (xv, false)) fs := by rw [← hw2]; exact hR'.out.drew 1
    have hb2 : ButS w1 w2 (RB R Av (some ⟨g, 0, none⟩) Af) := by rw [← hw2]; exact (but_set _ _ _ _ _ (.inr (.inr (.inl rfl)))).drewN 1
    have hb4 : ButS w1 w2 (· = g) := by rw [← hw2]; exact (but_set w1 g k (.bool false) (· = g) rfl).drewN 1
    rw [hw2]
    have x2 := ap.c2
    have xf2 := ap.fr 2
    have xd1 : w2.cell? ⟨s, 1, none⟩ = some (.int .i64 (k : Int)) := cell_of_row w2 _ 1 _ _ (0, 0) ((hb4.block s (by have := hszH.out; omega) (by omega)).trans hDH.out)
    obtain ⟨i0, hii, hz0, hz1, hz2⟩ := info_parts' int_info'
    have hown : ∀ o, Hid (((w2.drew).alloc o).ownsRow B 3 1 (.slice Af fs.length cf) fs.length (iv fs)) := fun o => (ap.drew 1).freed.alloc o
    have hrd : Hid (Reads ((w2.drew).alloc (.cells #[.int .i64 (k : Int)] 3)) (w2.heap.size + 1) 1 (some ⟨w2.heap.size, 0, none⟩) 1 [.int .i64 (k : Int)]) := by
      refine ⟨rfl, fun _ => ⟨_, rfl, by show w2.heap.size < _; omega, fun j u hu => ?_⟩⟩
      match j, hu with
      | 0, hu =>
        simp at hu; subst hu
        exact cell_of_row _ _ 0 _ _ (0, 0) (alloc_top _ _ rfl)
    have hB9 : Hid (B ≤ ((w2.drew).alloc (.cells #[.int .i64 (k : Int)] 3)).heap.size) := by show _ ≤ _; have := hBR.out; have := ap.lt; simp; omega
    have hfm : fs.length ≤ 2097152 := by have := hns.out; omega
    have hx1 : Hid (∀ u ∈ [Value.int .i64 (k : Int)], u.oneCell' = true) := fun u hu => by simp at hu; subst hu; rfl
    have hx2 : Hid (fs.length + 1 ≤ maxLen) := by show _ ≤ _; unfold maxLen; omega
    have hx3 : Hid ((fs.length + 1) * 8 ≤ 140737488355328) := by show _ ≤ _; omega
    have hK : ∀ v' w4, w4.ownsRow B 3 1 v' (fs.length + 1) (iv fs ++ [Value.int .i64 (k : Int)]) → ((w2.alloc (.cells #[.int .i64 (k : Int)] 3)).drew).grownBy w4 (Value.slice Af fs.length cf).ownBlock → (v'.ownBlock = (Value.slice Af fs.length cf).ownBlock ∨ v'.ownBlock = some ((w2.alloc (.cells #[.int .i64 (k : Int)] 3)).drew).heap.size) →
        ∃ A' c', v' = .slice A' (fs.length + 1) c' ∧ w4.cell? ⟨R, 2, none⟩ = some (.slice Af fs.length cf) ∧ w4.frozen? ⟨R, 2, none⟩ = false ∧ Hid (RStep w B R lim r Av (some ⟨g, 0, none⟩) Af (ns.set k (xv, false)) (fs ++ [k]) (w4.setCell ⟨R, 2, none⟩ (.slice A' (fs.length + 1) c'))) := by
      intro v' w4 hown' hgrow hblk
      have hsz2 : ((w2.alloc (.cells #[.int .i64 (k : Int)] 3)).drew).heap.size = w2.heap.size + 1 := by show (w2.alloc _).heap.size = _; simp
      obtain ⟨A', c', rfl⟩ := own_form hown'
      have b5 : ButS w2 w4 (fun j => Af.map (·.block) = some j) := ((but_alloc w2 (.cells #[.int .i64 (k : Int)] 3) _).drewN 1).trans (ButS.of_grown hgrow (fun j e => own_block e))
      have nR : ¬ (Af.map (·.block) = some R) := fun e => by
        cases Af with
        | none => simp at e
        | some x => simp at e; exact ap.oF x rfl e
      have hrow := (b5.block R ap.lt nR).trans ap.row
      have hA1 : ∀ a, A' = some a → Af.map (·.block) = some a.block ∨ a.block = w2.heap.size + 1 := by
        intro a e
        subst e
        rcases hblk with h | h
        · left; exact own_block h.symm |> fun _ => by
            cases Af with
            | none => simp [Value.ownBlock] at h
            | some x => simp [Value.ownBlock] at h; simp [h]
        · right; simp [Value.ownBlock] at h; omega
      have hfar : ∀ j, RB R Av (some ⟨g, 0, none⟩) Af j → j < w2.heap.size := fun j hj => (ap.rb hj).2
      have hoff : Off A' R := fun a e hh => by
        rcases hA1 a e with h | h
        · exact nR (hh ▸ h)
        · have := ap.lt; omega
      have hap : ∀ C : Option Addr, (∀ x, C = some x → x.block < w2.heap.size) → Apart C Af → Apart C A' := fun C hC hCA x y e e' hh => by
        rcases hA1 y e' with h | h
        · cases Af with
          | none => simp at h
          | some z => simp at h; exact hCA x z e rfl (hh.trans h.symm)
        · have := hC x e; omega
      have el : (fs ++ [k]).length = fs.length + 1 := by simp
      have ei : iv fs ++ [Value.int .i64 (k : Int)] = iv (fs ++ [k]) := by simp [iv]
      rw [ei] at hown'
      have hown2 : w4.ownsRow B 3 1 (.slice A' (fs ++ [k]).length c') (fs ++ [k]).length (iv (fs ++ [k])) := by rw [el]; exact hown'
      have hns' := hns.out
      have hfin := rf_setF (x := .slice Af fs.length cf) (lim := lim) (r := r) hrow (b5.own ap.vals (fun j hj e => by
          have h1 := own_block hj
          cases Av with
          | none => simp at h1
          | some x => cases Af with
            | none => simp at e
            | some y => simp at h1 e; exact ap.vf x y rfl rfl (h1.trans e.symm)))
        (b5.own ap.live (fun j hj e => by
          have h1 := own_block hj
          cases Af with
          | none => simp at e
          | some y => simp at h1 e; exact ap.lf _ y rfl rfl (h1.trans e.symm)))
        hown2 hBR.out ap.ov ap.ol hoff ap.vl (hap Av (fun x e => hfar _ (.inr (.inl (by rw [e]; rfl)))) ap.vf) (hap (some ⟨g, 0, none⟩) (fun x e => hfar _ (.inr (.inr (.inl (by rw [e]; rfl))))) ap.lf)
        (fun j hj => by
          rw [List.length_set]
          rcases List.mem_append.1 hj with h | h
          · have := ap.inr j h; rw [List.length_set] at this; exact this
          · simp at h; omega) (by rw [List.length_set]; omega) (by rw [List.length_set, el]; omega)
      rw [el] at hfin
      refine ⟨A', c', rfl, cell_of_row w4 R 2 _ _ (0, 0) hrow, by simp [World.frozen?, hrow], ?_⟩
      refine ⟨_, _, _, _, _, _, hfin, ?_, fun j hj => ?_⟩
      · have q1 : ButS w w2 (RB R Av (some ⟨g, 0, none⟩) Af) := hBH.out.trans hb2
        exact (q1.trans (b5.mono (fun j _ h => .inr (.inr (.inr h))))).trans (but_set _ _ _ _ _ (.inl rfl))
      · rcases hj with h | h | h | h
        · exact .inl (.inl h)
        · exact .inl (.inr (.inl h))
        · exact .inl (.inr (.inr (.inl h)))
        · cases A' with
          | none => simp at h
          | some a =>
            simp at h
            rcases hA1 a rfl with h1 | h1
            · exact .inl (.inr (.inr (.inr (h ▸ h1))))
            · right; have := hBH.out.size; have := hb2.size; omega
    have hKH := Lib.hid hK
    clear hK
    have apH := Lib.hid ap
    have hlt2 := ap.lt
    have hb2H := Lib.hid hb2
    clear ap hw2 hb2 hb4 hc1 hv hf hd1
    generalize hfn : fs.length = m at *
    have hfnH := Lib.hid hfn
    clear hfn
    go_region_law (refine step_append_any _ rfl (.tmp 105) (.tmp 108) 35 rfl B 3 i0 _ 1 8 Try.underlying35 hii hz0 hz1 hz2 rfl (by decide) (.slice Af m cf) m (iv fs) (by simp [Act.eval]) (hown _).out (w2.heap.size + 1) (some ⟨w2.heap.size, 0, none⟩) 1 1 [.int .i64 (k : Int)] (by simp [Act.eval]) hrd.out hx1.out hx2.out hx3.out hB9.out ?_; intro v' w4 h1 h2 h3; obtain ⟨A', c', rfl, hcP, hfP, hst⟩ := hKH.out v' w4 h1 h2 h3; clear h1 h2 h3)
    all_goals
      go_wp2
      refine bodyPost_ret (results_tmp3 rfl _ _ _) rfl ?_
      exact ⟨rfl, hst.out⟩
end
end Go.Proofs.Ytpgmgldhpagieaa
