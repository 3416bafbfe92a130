
/- What the reference's Do changes: Put, Free; the text walked. -/
import Derived.Test.YtpgmgldhpagieaaRMem
namespace Go.Proofs.Ytpgmgldhpagieaa
open Go.RowKit
theorem rb_set {R g : Nat} {Av Al Af : Option Addr} {w : World} {p : Nat} {u : Value} (h : RB R Av Al Af g) : ButS w (w.setCell ⟨g, p, none⟩ u) (RB R Av Al Af) := but_set w g p u _ h
section
variable {w : World} {B R lim r cv cl cf g : Nat} {Av Al Af : Option Addr} {ns : List (Nat × Bool)} {fs : List Nat}
theorem r_do3_yes (a : Rf w B R lim r Av cv Al cl Af cf ns fs) (d : Nat) (hd : d < 256) (hr : d % 6 = 3) (i : Int) (k : Nat) (hi : i = (k : Int)) (hk : k < ns.length) (ht : ns[k].2 = true) (V : Nat) :
    Calls Try.prog 18 #[.pointer (some ⟨R, 0, none⟩), actv d i V] w fun e w' => e = .returned (.tuple #[.int .i64 0, .int .u64 0, .bool true]) ∧ RStep w B R lim r Av Al Af (ns.set k (V, ns[k].2)) fs w' := by
  subst hi
  have hl : lv ns (k : Int) = true := by unfold lv; simp [hk, ht]
  have a1 := a.alloc (acto d (k : Int) V)
  have hB0 : ButS w (w.alloc (acto d (k : Int) V)) (RB R Av Al Af) := but_alloc _ _ _
  have ht := Lib.hid (r_taken a1 (k : Int))
  rw [hl] at ht
  have e1 : ((d : Int).tmod 6) = 3 := by rw [Int.tmod_eq_emod_of_nonneg (by omega)]; omega
  have e3 : (d : Int) % 6 = 3 := by omega
  have hk2 : (k : Int).toNat = k := by omega
  have k1 : (k : Int) < (ns.length : Int) := by omega
  have hns : Hid (ns.length ≤ 2097152 ∧ fs.length ≤ ns.length) := ⟨a.ns_le, a.fs_le⟩
  obtain ⟨w1, hw1⟩ : ∃ w1, w.alloc (acto d (k : Int) V) = w1 := ⟨_, rfl⟩
  have hD0 : w1.heap[w.heap.size]? = some (.cells #[.int .u8 (d : Int), .int .i64 (k : Int), .int .u64 (V : Int)] 39 (0, 0)) := by rw [← hw1]; exact alloc_top _ _ rfl
  have hsz : w1.heap.size = w.heap.size + 1 := by rw [← hw1]; simp
  have hlt := a.lt
  have hbl : ∀ j, RB R Av Al Af j → j < w.heap.size := fun j hj => (a.rb hj).2
  have hblH := Lib.hid hbl
  clear hbl
  rw [hw1] at a1 hB0
  have hw1H := Lib.hid hw1
  clear hw1
  have hd1 : w1.cell? ⟨w.heap.size, 1, none⟩ = some (.int .i64 (k : Int)) := cell_of_row w1 _ 1 _ _ (0, 0) hD0
  have hd2 : w1.cell? ⟨w.heap.size, 2, none⟩ = some (.int .u64 (V : Int)) := cell_of_row w1 _ 2 _ _ (0, 0) hD0
  have hBH := Lib.hid hB0
  clear hB0 hD0
  have hc0 := a1.c0
  obtain ⟨g, rfl, hgR, hv, hfr⟩ := a1.val_at hk
  have hf := hfr k
  have hR' := Lib.hid (a1.put hk V)
  have hgl := hblH.out g (.inr (.inl rfl))
  clear a a1 hl hr hfr hsz
  generalize ns[k].1 = xv at *
  go_enter Try.func18, Try.ntmps18
  go_wp2_with (go_at_call 26; (with_reducible refine ht.out.mono ?_); rintro e w9 ⟨rfl, rfl⟩)
  rw [hw1H.out]
  generalize w.heap.size = s at *
  go_region
  all_goals
    go_wp2
    refine bodyPost_ret (results_tmp3 rfl _ _ _) rfl ?_
    exact ⟨rfl, _, _, _, _, _, _, hR'.out.drew _, (hBH.out.trans (but_set _ _ _ _ _ (.inr (.inl rfl)))).drewN _, fun j hj => .inl hj⟩
theorem own_nil (w : World) (base : Nat) (e : TypeId) (size : Nat) : w.ownsRow base e size (.slice none 0 0) 0 [] := ⟨by simp, .inl ⟨rfl, rfl⟩⟩
theorem Rf.cleared (a : Rf w B R lim r Av cv Al cl Af cf ns fs) : Rf (((w.setCell ⟨R, 0, none⟩ (.slice none 0 0)).setCell ⟨R, 1, none⟩ (.slice none 0 0)).setCell ⟨R, 2, none⟩ (.slice none 0 0)) B R lim r none 0 none 0 none 0 [] [] := by
  refine ⟨?_, own_nil _ _ _ _, own_nil _ _ _ _, own_nil _ _ _ _, a.base, fun _ h => by simp at h, fun _ h => by simp at h, fun _ h => by simp at h, fun _ _ h => by simp at h, fun _ _ h => by simp at h, fun _ _ h => by simp at h, fun _ h => by simp at h, by simp, by simp⟩
  have := set_heap (set_heap (set_heap a.row 0 (.slice none 0 0)) 1 (.slice none 0 0)) 2 (.slice none 0 0)
  simpa using this
theorem r_do5 (a : Rf w B R lim r Av cv Al cl Af cf ns fs) (d : Nat) (hd : d < 256) (hr : d % 6 = 5) (i : Int) (V : Nat) :
    Calls Try.prog 18 #[.pointer (some ⟨R, 0, none⟩), actv d i V] w fun e w' => e = .returned (.tuple #[.int .i64 0, .int .u64 0, .bool true]) ∧ RStep w B R lim r Av Al Af [] [] w' := by
  have a1 := a.alloc (acto d i V)
  have ht := Lib.hid (r_taken a1 i)
  have e1 : ((d : Int).tmod 6) = 5 := by rw [Int.tmod_eq_emod_of_nonneg (by omega)]; omega
  have e3 : (d : Int) % 6 = 5 := by omega
  have hR' := Lib.hid (a.cleared.alloc (acto d i V))
  have hb : Hid (ButS w ((((w.setCell ⟨R, 0, none⟩ (.slice none 0 0)).setCell ⟨R, 1, none⟩ (.slice none 0 0)).setCell ⟨R, 2, none⟩ (.slice none 0 0)).alloc (acto d i V)) (RB R Av Al Af)) :=
    ((((but_set w R 0 _ _ (.inl rfl)).trans (but_set _ R 1 _ _ (.inl rfl))).trans (but_set _ R 2 _ _ (.inl rfl))).trans (but_alloc _ _ _))
  have hf0 := a.fr 0
  have hf1 := a.fr 1
  have hf2 := a.fr 2
  have hc0 := a.c0
  have hc1 := a.c1
  have hc2 := a.c2
  have hRlt := a.lt
  generalize hlv : lv ns i = t at *
  clear a a1 hlv hr
  go_enter Try.func18, Try.ntmps18
  go_wp2_with (go_at_call 26; (with_reducible refine ht.out.mono ?_); rintro e w9 ⟨rfl, rfl⟩)
  refine bodyPost_ret (results_tmp3 rfl _ _ _) rfl ?_
  exact ⟨rfl, _, _, _, _, _, _, hR'.out, hb.out, fun j hj => by
    rcases hj with h | h | h | h
    · exact .inl (.inl h)
    all_goals simp at h⟩
end
end Go.Proofs.Ytpgmgldhpagieaa
