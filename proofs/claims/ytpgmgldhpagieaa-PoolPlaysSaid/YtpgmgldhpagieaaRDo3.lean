
/- What the reference's Do changes: a freed place is taken again; the text walked. -/
import Derived.Test.YtpgmgldhpagieaaRDo2
namespace Go.Proofs.Ytpgmgldhpagieaa
open Go.RowKit
section
variable {w : World} {B R lim r cv cl cf g : Nat} {Av Al Af : Option Addr} {ns : List (Nat × Bool)} {fs : List Nat}
theorem Rf.pop {m i : Nat} (a : Rf w B R lim r Av cv Al cl Af cf ns (fs ++ [i])) (hm : fs.length = m) : Rf (w.setCell ⟨R, 2, none⟩ (.slice Af m cf)) B R lim r Av cv Al cl Af cf ns fs := by
  subst hm
  have hcut := own_cut a.freed (k := fs.length) (by simp)
  have e : (iv (fs ++ [i])).take (fs.length * 1) = iv fs := by rw [Nat.mul_one]; simp
  rw [e] at hcut
  exact a.setF hcut a.oF a.vf a.lf (fun j hj => a.inr j (List.mem_append_left _ hj)) (by have := a.fs_le; simp at this; omega)
theorem r_do0_pop {i0 : Int} (i m : Nat) (a : Rf w B R lim r Av cv Al cl Af cf ns (fs ++ [i])) (hm : fs.length = m) (d : Nat) (hd : d < 256) (hr : d % 6 = 0) (V : Nat) (hf : tkn ns < lim) :
    Calls Try.prog 18 #[.pointer (some ⟨R, 0, none⟩), actv d i0 V] w fun e w' => e = .returned (.tuple #[.int .i64 (i : Int), .int .u64 0, .bool true]) ∧ RStep w B R lim r Av Al Af (ns.set i (V, true)) fs w' := by
  have hi : i < ns.length := a.inr i (by simp)
  have hl : (fs ++ [i]).length = m + 1 := by simp [hm]
  have a1 := a.alloc (acto d i0 V)
  have hB0 : ButS w (w.alloc (acto d i0 V)) (RB R Av Al Af) := but_alloc _ _ _
  have ht := Lib.hid (r_taken a1 i0)
  have hn := fun N => Lib.hid (r_len (a1.drew N) (tkn ns : Int) rfl)
  have e1 : ((d : Int).tmod 6) = 0 := by rw [Int.tmod_eq_emod_of_nonneg (by omega)]; omega
  have e3 : (d : Int) % 6 = 0 := by omega
  have g1 : decide ((lim : Int) ≤ (tkn ns : Int)) = false := decide_eq_false (by omega)
  have g2 : decide (lim ≤ tkn ns) = false := decide_eq_false (by omega)
  have hm1 : m + 1 ≤ 2097152 := by rw [← hl]; exact Nat.le_trans a.fs_le a.ns_le
  have hil : (i : Int) < (ns.length : Int) := by omega
  have hik : (i : Int).toNat = i := by omega
  obtain ⟨w1, hw1⟩ : ∃ w1, w.alloc (acto d i0 V) = w1 := ⟨_, rfl⟩
  have hD0 : w1.heap[w.heap.size]? = some (.cells #[.int .u8 (d : Int), .int .i64 i0, .int .u64 (V : Int)] 39 (0, 0)) := by rw [← hw1]; exact alloc_top _ _ rfl
  have hlt := a.lt
  rw [hw1] at a1 hB0
  have hw1H := Lib.hid hw1
  clear hw1
  have hd2 : w1.cell? ⟨w.heap.size, 2, none⟩ = some (.int .u64 (V : Int)) := cell_of_row w1 _ 2 _ _ (0, 0) hD0
  have hBH := Lib.hid hB0
  have hc0 := a1.c0
  have hc1 := a1.c1
  have hc2 := a1.c2
  have hc3 := a1.c3
  have hf2 := a1.fr 2
  obtain ⟨gf, rfl, hgf, hcf, _⟩ := a1.free_at (i := m) (by rw [hl]; omega)
  have hfi : (fs ++ [i])[m]'(by rw [hl]; omega) = i := by simp [← hm]
  rw [hfi] at hcf
  rw [hl] at hc2
  have hcap : m + 1 ≤ cf := by have := own_cap a.freed; omega
  obtain ⟨gv, rfl, hgv, hv, hfv⟩ := a1.val_at hi
  obtain ⟨gl, rfl, hgl, hlv, hfl⟩ := a1.live_at hi
  have hfv1 := hfv i
  have hfl1 := hfl i
  have hne : gv ≠ gl := fun e => a.vl _ _ rfl rfl e
  have wm : IntKind.i64.wrap (((m + 1 : Nat) : Int) - 1) = (m : Int) := by rw [IntWalk.i64_in _ (by omega)]; omega
  have wm2 : IntKind.i64.wrap ((m : Int) + 1 - 1) = (m : Int) := by rw [IntWalk.i64_in _ (by omega)]; omega
  have gm : decide (0 ≤ (m : Int)) = true := decide_eq_true (by omega)
  have km : (m : Int) < ((m + 1 : Nat) : Int) := by omega
  have gp : decide ((0 : Int) < (m : Int) + 1) = true := decide_eq_true (by omega)
  have gp2 : decide (0 < m + 1) = true := decide_eq_true (by omega)
  have a1H := Lib.hid a1
  have hmH := Lib.hid hm
  have hDH := Lib.hid hD0
  have hsz : w.heap.size < w1.heap.size := by rw [← hw1H.out]; simp
  clear a a1 hl hr hfv hfl hB0 hD0 hm hfi hf
  generalize tkn ns = q at *
  generalize ns[i].1 = xv at *
  generalize ns[i].2 = xl at *
  go_enter Try.func18, Try.ntmps18
  go_wp2_with (go_at_call 26; (with_reducible refine ht.out.mono ?_); rintro e w9 ⟨rfl, rfl⟩)
  rw [hw1H.out]
  rw [hw1H.out] at hn
  generalize w.heap.size = s at *
  go_quiet ((go_at_call 10; exact Calls.quiet_of_same ((hn _).out.mono (by rintro e w' ⟨rfl, rfl⟩; exact ⟨rfl, rfl⟩))))
  go_wp2
  have ap := (a1H.out.drew nq).pop hmH.out
  have hb3 := but_set (w1.drewN nq) R 2 (.slice (some ⟨gf, 0, none⟩) m cf) (RB R (some ⟨gv, 0, none⟩) (some ⟨gl, 0, none⟩) (some ⟨gf, 0, none⟩)) (.inl rfl)
  have hb4 := but_set (w1.drewN nq) R 2 (.slice (some ⟨gf, 0, none⟩) m cf) (· = R) rfl
  obtain ⟨w3, hw3⟩ : ∃ w3, (w1.drewN nq).setCell ⟨R, 2, none⟩ (.slice (some ⟨gf, 0, none⟩) m cf) = w3 := ⟨_, rfl⟩
  rw [hw3] at ap hb3 hb4
  rw [hw3]
  have x0 := ap.c0
  have x1 := ap.c1
  obtain ⟨g1, hg1, _, y1, z1⟩ := ap.val_at hi
  obtain rfl : gv = g1 := by simpa using hg1
  obtain ⟨g2, hg2, _, y2, z2⟩ := ap.live_at hi
  obtain rfl : gl = g2 := by simpa using hg2
  have z1i := z1 i
  have z2i := z2 i
  have x2 : w3.cell? ⟨s, 2, none⟩ = some (.int .u64 (V : Int)) := cell_of_row w3 _ 2 _ _ (0, 0) ((hb4.block s hsz (by omega)).trans hDH.out)
  have hA := (ap.put hi V).mark (k := i) (by rw [List.length_set]; exact hi) true
  have hB := (ap.mark hi true).put (k := i) (by rw [List.length_set]; exact hi) V
  have eA : (ns.set i (V, ns[i].2)).set i (((ns.set i (V, ns[i].2))[i]'(by rw [List.length_set]; exact hi)).1, true) = ns.set i (V, true) := by simp
  have eB : (ns.set i (ns[i].1, true)).set i (V, ((ns.set i (ns[i].1, true))[i]'(by rw [List.length_set]; exact hi)).2) = ns.set i (V, true) := by simp
  rw [eA] at hA
  rw [eB] at hB
  have hAH := Lib.hid hA
  have hBBH := Lib.hid hB
  have hb5 : Hid (ButS w w3 (RB R (some ⟨gv, 0, none⟩) (some ⟨gl, 0, none⟩) (some ⟨gf, 0, none⟩))) := (hBH.out.drewN nq).trans hb3
  clear hA hB eA eB ap hb3 hb4 hg1 hg2 z1 z2 hc0 hc1 hc2 hc3 hf2 hcf hv hlv hfv1 hfl1 hd2 hw3 hn
  go_region
  all_goals
    go_wp2
    refine bodyPost_ret (results_tmp3 rfl _ _ _) rfl ?_
    first
    | exact ⟨rfl, _, _, _, _, _, _, hAH.out.drew _, ((hb5.out.trans (but_set _ _ _ _ _ (.inr (.inl rfl)))).trans (but_set _ _ _ _ _ (.inr (.inr (.inl rfl))))).drewN _, fun j hj => .inl hj⟩
    | exact ⟨rfl, _, _, _, _, _, _, hBBH.out.drew _, ((hb5.out.trans (but_set _ _ _ _ _ (.inr (.inr (.inl rfl))))).trans (but_set _ _ _ _ _ (.inr (.inl rfl)))).drewN _, fun j hj => .inl hj⟩
end
end Go.Proofs.Ytpgmgldhpagieaa
