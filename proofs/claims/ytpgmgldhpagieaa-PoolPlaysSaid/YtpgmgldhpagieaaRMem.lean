
/- The reference's pool, one cell changed. -/
import Derived.Test.YtpgmgldhpagieaaRDo
namespace Go.Proofs.Ytpgmgldhpagieaa
open Go.RowKit
section
variable {w : World} {B R lim r cv cl cf g : Nat} {Av Al Af : Option Addr} {ns : List (Nat × Bool)} {fs : List Nat}
theorem vv_set (ns : List (Nat × Bool)) (k v : Nat) (b : Bool) : vv (ns.set k (v, b)) = (vv ns).set k (.int .u64 (v : Int)) := by simp [vv, List.map_set]
theorem lbv_set (ns : List (Nat × Bool)) (k v : Nat) (b : Bool) : lbv (ns.set k (v, b)) = (lbv ns).set k (.bool b) := by simp [lbv, List.map_set]
theorem set_same {α : Type} (l : List α) (k : Nat) (x : α) (hk : k < l.length) (h : l[k] = x) : l.set k x = l := by
  subst h
  exact List.set_getElem_self hk
theorem Rf.reads (a : Rf w B R lim r Av cv Al cl Af cf ns fs) (q : Int) (r' : Nat) (hq : q = (r' : Int)) : Rf (w.setCell ⟨R, 4, none⟩ (.int .i64 q)) B R lim r' Av cv Al cl Af cf ns fs := by
  subst hq
  have b := but_set w R 4 (.int .i64 (r' : Int)) (· = R) rfl
  refine ⟨?_, b.own a.vals ?_, b.own a.live ?_, b.own a.freed ?_, a.base, a.ov, a.ol, a.oF, a.vl, a.vf, a.lf, a.inr, a.ns_le, a.fs_le⟩
  · have := set_heap a.row 4 (.int .i64 (r' : Int))
    simpa using this
  · exact fun k hk => by cases Av with
      | none => simp [Value.ownBlock] at hk
      | some x => simp [Value.ownBlock] at hk; subst hk; exact a.ov x rfl
  · exact fun k hk => by cases Al with
      | none => simp [Value.ownBlock] at hk
      | some x => simp [Value.ownBlock] at hk; subst hk; exact a.ol x rfl
  · exact fun k hk => by cases Af with
      | none => simp [Value.ownBlock] at hk
      | some x => simp [Value.ownBlock] at hk; subst hk; exact a.oF x rfl
theorem Rf.put (a : Rf w B R lim r (some ⟨g, 0, none⟩) cv Al cl Af cf ns fs) {k : Nat} (hk : k < ns.length) (v : Nat) :
    Rf (w.setCell ⟨g, k, none⟩ (.int .u64 (v : Int))) B R lim r (some ⟨g, 0, none⟩) cv Al cl Af cf (ns.set k (v, ns[k].2)) fs := by
  have b := but_set w g k (.int .u64 (v : Int)) (· = g) rfl
  have hl : (ns.set k (v, ns[k].2)).length = ns.length := by rw [List.length_set]
  have e1 : vv (ns.set k (v, ns[k].2)) = (vv ns).set k (.int .u64 (v : Int)) := vv_set ns k v _
  have e2 : lbv (ns.set k (v, ns[k].2)) = lbv ns := by rw [lbv_set]; exact set_same _ _ _ (by simpa [lbv] using hk) (by simp [lbv])
  refine ⟨?_, ?_, ?_, b.own a.freed ?_, a.base, a.ov, a.ol, a.oF, a.vl, a.vf, a.lf, fun i hi => by rw [hl]; exact a.inr i hi, by rw [hl]; exact a.ns_le, by rw [hl]; exact a.fs_le⟩
  · rw [b.block R a.lt (fun e => a.ov _ rfl e.symm), a.row, hl]
  · rw [hl, e1]; exact (a.vals.stored k _).1
  · rw [hl, e2]
    exact b.own a.live (fun k hk => by cases Al with
      | none => simp [Value.ownBlock] at hk
      | some x => simp [Value.ownBlock] at hk; subst hk; exact fun e => a.vl _ x rfl rfl e.symm)
  · exact fun k hk => by cases Af with
      | none => simp [Value.ownBlock] at hk
      | some x => simp [Value.ownBlock] at hk; subst hk; exact fun e => a.vf _ x rfl rfl e.symm
theorem Rf.mark (a : Rf w B R lim r Av cv (some ⟨g, 0, none⟩) cl Af cf ns fs) {k : Nat} (hk : k < ns.length) (t : Bool) :
    Rf (w.setCell ⟨g, k, none⟩ (.bool t)) B R lim r Av cv (some ⟨g, 0, none⟩) cl Af cf (ns.set k (ns[k].1, t)) fs := by
  have b := but_set w g k (.bool t) (· = g) rfl
  have hl : (ns.set k (ns[k].1, t)).length = ns.length := by rw [List.length_set]
  have e1 : lbv (ns.set k (ns[k].1, t)) = (lbv ns).set k (.bool t) := lbv_set ns k _ t
  have e2 : vv (ns.set k (ns[k].1, t)) = vv ns := by rw [vv_set]; exact set_same _ _ _ (by simpa [vv] using hk) (by simp [vv])
  refine ⟨?_, ?_, ?_, b.own a.freed ?_, a.base, a.ov, a.ol, a.oF, a.vl, a.vf, a.lf, fun i hi => by rw [hl]; exact a.inr i hi, by rw [hl]; exact a.ns_le, by rw [hl]; exact a.fs_le⟩
  · rw [b.block R a.lt (fun e => a.ol _ rfl e.symm), a.row, hl]
  · rw [hl, e2]
    exact b.own a.vals (fun k hk => by cases Av with
      | none => simp [Value.ownBlock] at hk
      | some x => simp [Value.ownBlock] at hk; subst hk; exact fun e => a.vl x _ rfl rfl e)
  · rw [hl, e1]; exact (a.live.stored k _).1
  · exact fun k hk => by cases Af with
      | none => simp [Value.ownBlock] at hk
      | some x => simp [Value.ownBlock] at hk; subst hk; exact fun e => a.lf _ x rfl rfl e.symm
theorem Rf.setF (a : Rf w B R lim r Av cv Al cl Af cf ns fs) {Af' : Option Addr} {cf' : Nat} {fs' : List Nat} (hown : w.ownsRow B 3 1 (.slice Af' fs'.length cf') fs'.length (iv fs'))
    (h2 : Off Af' R) (h3 : Apart Av Af') (h4 : Apart Al Af') (hin : ∀ i ∈ fs', i < ns.length) (hle : fs'.length ≤ ns.length) :
    Rf (w.setCell ⟨R, 2, none⟩ (.slice Af' fs'.length cf')) B R lim r Av cv Al cl Af' cf' ns fs' := by
  have b := but_set w R 2 (.slice Af' fs'.length cf') (· = R) rfl
  refine ⟨?_, b.own a.vals ?_, b.own a.live ?_, b.own hown ?_, a.base, a.ov, a.ol, h2, a.vl, h3, h4, hin, a.ns_le, hle⟩
  · have := set_heap a.row 2 (.slice Af' fs'.length cf')
    simpa using this
  · exact fun k hk => by cases Av with
      | none => simp [Value.ownBlock] at hk
      | some x => simp [Value.ownBlock] at hk; subst hk; exact a.ov x rfl
  · exact fun k hk => by cases Al with
      | none => simp [Value.ownBlock] at hk
      | some x => simp [Value.ownBlock] at hk; subst hk; exact a.ol x rfl
  · exact fun k hk => by cases Af' with
      | none => simp [Value.ownBlock] at hk
      | some x => simp [Value.ownBlock] at hk; subst hk; exact h2 x rfl
/-- What a changing act leaves. -/
def RStep (w : World) (B R lim r' : Nat) (Av Al Af : Option Addr) (ns' : List (Nat × Bool)) (fs' : List Nat) (w' : World) : Prop :=
  ∃ Av' cv' Al' cl' Af' cf', Rf w' B R lim r' Av' cv' Al' cl' Af' cf' ns' fs' ∧ ButS w w' (RB R Av Al Af) ∧ ∀ j, RB R Av' Al' Af' j → RB R Av Al Af j ∨ w.heap.size ≤ j
theorem r_do2_yes (a : Rf w B R lim r Av cv Al cl Af cf ns fs) (d : Nat) (hd : d < 256) (hr : d % 6 = 2) (i : Int) (k : Nat) (hi : i = (k : Int)) (hk : k < ns.length) (ht : ns[k].2 = true) (V : Nat) (hr9 : r < 1000000) (x : Int) (hx : x = (ns[k].1 : Int)) :
    Calls Try.prog 18 #[.pointer (some ⟨R, 0, none⟩), actv d i V] w fun e w' => e = .returned (.tuple #[.int .i64 0, .int .u64 x, .bool true]) ∧ RStep w B R lim (r + 1) Av Al Af ns fs w' := by
  subst hi
  subst hx
  have hl : lv ns (k : Int) = true := by unfold lv; simp [hk, ht]
  have a1 := a.alloc (acto d (k : Int) V)
  have ht := Lib.hid (r_taken a1 (k : Int))
  rw [hl] at ht
  have e1 : ((d : Int).tmod 6) = 2 := by rw [Int.tmod_eq_emod_of_nonneg (by omega)]; omega
  have e3 : (d : Int) % 6 = 2 := by omega
  have hc4 := a1.c4
  have hc0 := a1.c0
  have hRlt := a.lt
  have hfr := a1.fr 4
  obtain ⟨g, rfl, hgR, hv, _⟩ := a1.val_at hk
  have hR0 := (a.reads ((r : Int) + 1) (r + 1) (by omega)).alloc (acto d (k : Int) V)
  have hD0 : ((w.setCell ⟨R, 4, none⟩ (.int .i64 ((r : Int) + 1))).alloc (acto d (k : Int) V)).heap[w.heap.size]? = some (.cells #[.int .u8 (d : Int), .int .i64 (k : Int), .int .u64 (V : Int)] 39 (0, 0)) := alloc_top _ _ (by simp [World.setCell])
  have hB0 : ButS w ((w.setCell ⟨R, 4, none⟩ (.int .i64 ((r : Int) + 1))).alloc (acto d (k : Int) V)) (RB R (some ⟨g, 0, none⟩) Al Af) := (but_set w R 4 _ _ (.inl rfl)).trans (but_alloc _ _ _)
  obtain ⟨w2, hw2⟩ : ∃ w2, (w.setCell ⟨R, 4, none⟩ (.int .i64 ((r : Int) + 1))).alloc (acto d (k : Int) V) = w2 := ⟨_, rfl⟩
  rw [hw2] at hR0 hD0 hB0
  have hw2H := Lib.hid hw2
  clear hw2
  have hx0 := hR0.c0
  obtain ⟨g', hg', _, hy, _⟩ := hR0.val_at hk
  obtain rfl : g = g' := by simpa using hg'
  have hd1 : w2.cell? ⟨w.heap.size, 1, none⟩ = some (.int .i64 (k : Int)) := cell_of_row w2 _ 1 _ _ (0, 0) hD0
  have hRH := Lib.hid hR0
  have hBH := Lib.hid hB0
  clear hR0 hB0 hD0 hg'
  have hk2 : (k : Int).toNat = k := by omega
  have k1 : (k : Int) < (ns.length : Int) := by omega
  have wr : IntKind.i64.wrap ((r : Int) + 1) = (r : Int) + 1 := IntWalk.i64_in _ (by omega)
  clear a a1 hl hr
  generalize ns[k].1 = xv at *
  go_enter Try.func18, Try.ntmps18
  go_wp2_with (go_at_call 26; (with_reducible refine ht.out.mono ?_); rintro e w1 ⟨rfl, rfl⟩)
  rw [hw2H.out]
  generalize w.heap.size = s at *
  go_region
  all_goals
    go_wp2
    refine bodyPost_ret (results_tmp3 rfl _ _ _) rfl ?_
    exact ⟨rfl, _, _, _, _, _, _, hRH.out.drew _, hBH.out.drewN _, fun j hj => .inl hj⟩
end
end Go.Proofs.Ytpgmgldhpagieaa
