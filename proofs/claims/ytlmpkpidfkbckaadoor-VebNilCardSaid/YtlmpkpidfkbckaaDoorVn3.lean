
/- A pool of nodes: next, Alloc; the texts walked. -/
import Derived.Test.YtlmpkpidfkbckaaDoorVn2
namespace Go.Proofs.YtlmpkpidfkbckaaDoor
set_option maxRecDepth 40000
open Go.RowKit
theorem nod_le : ∀ (n : Nat) (l : List Nat), l.Nodup → (∀ x ∈ l, x < n) → l.length ≤ n
  | 0, l, _, h => by
    cases l with
    | nil => simp
    | cons x l => exact absurd (h x (by simp)) (by omega)
  | n + 1, l, hn, h => by
    by_cases hm : n ∈ l
    · have h1 := nod_le n (l.erase n) (hn.erase n) (fun x hx => by
        have h2 := h x (List.mem_of_mem_erase hx)
        have h3 : x ≠ n := fun e => by subst e; exact (List.Nodup.not_mem_erase hn) hx
        omega)
      rw [List.length_erase_of_mem hm] at h1
      omega
    · have h1 := nod_le n l hn (fun x hx => by
        have h2 := h x hx
        have h3 : x ≠ n := fun e => by subst e; exact hm hx
        omega)
      omega
section
variable {w : World} {Q M lim cn cf g : Nat} {An Af : Option Addr} {ns : List (Nd × Bool)} {fs : List Nat}
theorem Qo.fs_lt (a : Qo w Q M lim An cn Af cf ns fs) {k : Nat} (hk : k < ns.length) (ht : ns[k].2 = true) : k ∉ fs ∧ fs.length + 1 ≤ ns.length := by
  have h1 : k ∉ fs := fun hm => by
    obtain ⟨_, h⟩ := a.inr k hm
    rw [ht] at h
    cases h
  refine ⟨h1, nod_le ns.length (k :: fs) (List.nodup_cons.2 ⟨h1, a.nod⟩) fun x hx => ?_⟩
  rcases List.mem_cons.1 hx with rfl | hx
  · exact hk
  · exact (a.inr x hx).1
abbrev set6 (w : World) (g i : Nat) (y : Nd) (b : Bool) : World := (set5 w g i y).setCell ⟨g, i + 5, none⟩ (.bool b)
theorem Qo.place (a : Qo w Q M lim (some ⟨g, 0, none⟩) cn Af cf ns fs) {k : Nat} (hk : k < ns.length) (hn : k ∉ fs) (y : Nd) (b : Bool) :
    Qo (set6 w g (k * 6) y b) Q M lim (some ⟨g, 0, none⟩) cn Af cf (ns.set k (y, b)) fs := by
  have b1 : K.Chg w (set6 w g (k * 6) y b) (· = g) := (chg_set5 w g (k * 6) y (· = g) rfl).same (chg_set _ g _ _ (· = g) rfl)
  have h1 := ((own_set5 a.nodes (k * 6) y).stored (k * 6 + 5) (.bool b)).1
  rw [nv_set ns k y b hk] at h1
  have hl : (ns.set k (y, b)).length = ns.length := List.length_set ..
  refine ⟨?_, by rw [hl]; exact h1, b1.own a.freed (fun j hj e => a.ne_both rfl (own_of_map hj) e.symm), fun i hi => ?_, a.nod, a.lim_le, by rw [hl]; exact a.ns_le, by rw [hl]; exact a.fs_le⟩
  · rw [b1.block Q a.lt (fun e => a.ne_nodes rfl e.symm), a.row, hl]
  · obtain ⟨h2, h3⟩ := a.inr i hi
    refine ⟨by rw [hl]; exact h2, ?_⟩
    have hne : k ≠ i := by rintro rfl; exact hn hi
    simpa [List.getElem_set_ne hne] using h3
theorem Qo.setf (h : Qo w Q M lim An cn Af cf ns fs) {x : Value} {Af' : Option Addr} {cf' : Nat} {fs' : List Nat} {w' : World} (hrow : w'.heap[Q]? = some (.cells #[.pointer (some ⟨M, 0, none⟩), .int .i64 (lim : Int), .slice An ns.length cn, x] 46 (0, 0)))
    (hnod : w'.ownsRow 0 101 6 (.slice An ns.length cn) ns.length (nv ns)) (hown : w'.ownsRow 0 3 1 (.slice Af' fs'.length cf') fs'.length (iw fs'))
    (hin : ∀ i ∈ fs', ∃ h : i < ns.length, ns[i].2 = false) (hnd : fs'.Nodup) (hle : fs'.length ≤ ns.length) :
    Qo (w'.setCell ⟨Q, 3, none⟩ (.slice Af' fs'.length cf')) Q M lim An cn Af' cf' ns fs' := by
  have b := chg_set w' Q 3 (.slice Af' fs'.length cf') (· = Q) rfl
  refine ⟨?_, b.own hnod (fun k hk e => ?_), b.own hown (fun k hk e => ?_), hin, hnd, h.lim_le, h.ns_le, hle⟩
  · have := row_set hrow 3 (.slice Af' fs'.length cf')
    simpa using this
  · obtain ⟨_, cur, hc⟩ := own_block_lt hnod (own_of_map hk)
    exact row_ne hc hrow (by decide) e
  · obtain ⟨_, cur, hc⟩ := own_block_lt hown (own_of_map hk)
    exact row_ne hc hrow (by decide) e
end
section
variable (w : World) (Q M lim cn cf : Nat) (An Af : Option Addr) (ns : List (Nd × Bool)) (fs : List Nat)
theorem q_next_pop (i m : Nat) (a : Qo w Q M lim An cn Af cf ns (fs ++ [i])) (hm : fs.length = m) :
    Calls Tryd.prog 83 #[.pointer (some ⟨Q, 0, none⟩)] w fun e w' => e = .returned (.int .i64 (i : Int)) ∧ QStep w Q M lim An Af ns fs w' := by
  have aH := Lib.hid a
  have hl : (fs ++ [i]).length = m + 1 := by simp [hm]
  have hc3 := a.c3
  rw [hl] at hc3
  have hfr := a.fr 3
  have hfre := a.freed
  rw [hl] at hfre
  obtain ⟨g, rfl⟩ := own_some hfre (by omega)
  have hci : w.cell? ⟨g, m, none⟩ = some (.int .i64 (i : Int)) := by
    rw [hfre.cellAt m (by omega)]
    subst hm
    simp
  have hcap := own_cap hfre
  have hcut := own_cut hfre (k := m) (by omega)
  have hm1 : m + 1 ≤ 1048576 := by rw [← hl]; exact Nat.le_trans a.fs_le (Nat.le_trans a.ns_le a.lim_le)
  have hmH := Lib.hid hm
  have hcutH := Lib.hid hcut
  clear a hfre hcut hm hl
  have w1 : IntKind.i64.wrap (((m + 1 : Nat) : Int) - 1) = (m : Int) := by rw [IntWalk.i64_in _ (by omega)]; omega
  have w2 : IntKind.i64.wrap ((m : Int) + 1 - 1) = (m : Int) := by rw [IntWalk.i64_in _ (by omega)]; omega
  have g0 : decide (0 ≤ (m : Int)) = true := decide_eq_true (by omega)
  have k1 : (m : Int) < ((m + 1 : Nat) : Int) := by omega
  go_enter Tryd.func83, Tryd.ntmps83
  go_wp2
  go_ret
  have hc' : w.ownsRow 0 3 1 (.slice (some ⟨g, 0, none⟩) fs.length cf) fs.length (iw fs) := by
    have := hcutH.out
    rw [Nat.mul_one, ← hmH.out] at this
    simpa using this
  have hn := aH.out.nod
  have hp := aH.out.setf aH.out.row aH.out.nodes hc' (fun j hj => aH.out.inr j (List.mem_append_left _ hj)) (List.nodup_append.1 hn).1 (by have := aH.out.fs_le; simp at this; omega)
  rw [hmH.out] at hp
  exact ⟨rfl, An, cn, _, cf, hp, chg_set _ _ _ _ _ (.inl rfl), fun j hj => .inl hj⟩
theorem node_info : (Tryd.prog.info? 101).map (fun i => (i.zero, i.size, i.bytes)) = some (some (.agg #[.int .i64 0, .int .u64 0, .int .u64 0, .int .u64 0, .int .i64 0, .bool false]), 6, 48) := by kernel_rfl
abbrev nzo : Obj := .cells #[.int .i64 0, .int .u64 0, .int .u64 0, .int .u64 0, .int .i64 0, .bool false] 101
theorem cell_six (w : World) (a b c d e zl : Value) (T : TypeId) (j : Nat) (u : Value) (hu : [a, b, c, d, e, zl][j]? = some u) : (w.alloc (.cells #[a, b, c, d, e, zl] T)).cell? ((⟨w.heap.size, 0, none⟩ : Addr).add j) = some u := by
  have ea : (⟨w.heap.size, 0, none⟩ : Addr).add j = ⟨w.heap.size, j, none⟩ := by
    by_cases h : j = 0
    · subst h; rfl
    · simp [Addr.add, h]
  rw [ea, cell_of_row _ _ _ _ _ (0, 0) (K.alloc_top w (.cells #[a, b, c, d, e, zl] T))]
  simpa using hu
set_option maxHeartbeats 1000000 in
theorem q_next_new (a : Qo w Q M lim An cn Af cf ns []) (hn : ns.length < lim) :
    Calls Tryd.prog 83 #[.pointer (some ⟨Q, 0, none⟩)] w fun e w' => e = .returned (.int .i64 (ns.length : Int)) ∧ QStep w Q M lim An Af (ns ++ [(Nd.z, false)]) [] w' := by
  have aH := Lib.hid a
  obtain ⟨i0, hi, hz0, hz1, hz2⟩ := info_parts node_info
  have hc3 := a.c3
  have hc2 := a.c2
  have hnl := a.ns_le
  have hll := a.lim_le
  have hQlt := a.lt
  have hown := Lib.hid ((a.nodes).alloc nzo)
  have hrd : Hid (Reads (w.alloc nzo) (w.heap.size + 1) 6 (some ⟨w.heap.size, 0, none⟩) 1 [.int .i64 0, .int .u64 0, .int .u64 0, .int .u64 0, .int .i64 0, .bool false]) :=
    ⟨rfl, fun _ => ⟨_, rfl, by show w.heap.size < _; omega, cell_six _ _ _ _ _ _ _ _⟩⟩
  clear a
  generalize hnn : ns.length = n at *
  have hnH := Lib.hid hnn
  clear hnn
  go_enter Tryd.func83, Tryd.ntmps83
  go_wp2_with (at_builtin; refine wpList_append_any _ rfl _ _ 43 rfl 0 101 i0 _ 6 48 Tryd.underlying43 hi hz0 hz1 hz2 rfl (by decide) _ _ _ rfl hown.out (w.heap.size + 1) _ 1 1 _ rfl hrd.out ?c1 ?c2 ?c3 (Nat.zero_le _) ?_)
  case c2 => unfold maxLen; omega
  case c3 => omega
  all_goals try (case c1 => intro u hu; simp at hu; rcases hu with rfl | rfl | rfl | rfl | rfl | rfl <;> rfl)
  intro v' w1 hown' hgrow hblk
  obtain ⟨A', c', rfl⟩ := K.own_form hown'
  have hsl : (w.alloc nzo).heap.size = w.heap.size + 1 := by simp
  have b1 : K.Chg w w1 (fun j => An.map (·.block) = some j) := (chg_alloc w nzo _).grown hgrow (fun j e => .inl (own_of_map e))
  have hrow : w1.heap[Q]? = w.heap[Q]? := b1.block Q hQlt (fun e => aH.out.ne_nodes e rfl)
  have hrow2 := hrow.trans aH.out.row
  have hcP : w1.cell? ⟨Q, 2, none⟩ = some (.slice An n cn) := by
    have := cell_of_row w1 Q 2 _ _ (0, 0) hrow2
    rw [hnH.out] at this
    exact this
  have hfP : w1.frozen? ⟨Q, 2, none⟩ = false := frozen_of_row w1 Q 2 _ _ hrow2
  have hA1 : ∀ j, A'.map (·.block) = some j → An.map (·.block) = some j ∨ j = w.heap.size + 1 := by
    intro j e
    cases A' with
    | none => cases e
    | some a =>
      cases e
      rcases hblk with h | h
      · exact .inl (own_of_map h.symm)
      · right
        simp [Value.ownBlock] at h; exact h
  have hF1 : w1.ownsRow 0 3 1 (.slice Af 0 cf) 0 (iw []) := b1.own aH.out.freed (fun k hk e => aH.out.ne_both e (own_of_map hk) rfl)
  have hlen : (ns ++ [(Nd.z, false)]).length = n + 1 := by simp [hnH.out]
  have hown2 : w1.ownsRow 0 101 6 (.slice A' (ns ++ [(Nd.z, false)]).length c') (ns ++ [(Nd.z, false)]).length (nv (ns ++ [(Nd.z, false)])) := by
    rw [hlen, nv_snoc]
    exact hown'
  have hp : Qo (w1.setCell ⟨Q, 2, none⟩ (.slice A' (ns ++ [(Nd.z, false)]).length c')) Q M lim A' c' Af cf (ns ++ [(Nd.z, false)]) [] := by
    have b := chg_set w1 Q 2 (.slice A' (ns ++ [(Nd.z, false)]).length c') (· = Q) rfl
    refine ⟨?_, b.own hown2 (fun k hk e => ?_), b.own hF1 (fun k hk e => ?_), by simp, by simp, hll, by rw [hlen]; omega, by simp⟩
    · have := row_set hrow2 2 (.slice A' (ns ++ [(Nd.z, false)]).length c')
      simpa using this
    · obtain ⟨_, cur, hc⟩ := own_block_lt hown2 (own_of_map hk)
      exact row_ne hc hrow2 (by decide) e
    · obtain ⟨_, cur, hc⟩ := own_block_lt hF1 (own_of_map hk)
      exact row_ne hc hrow2 (by decide) e
  have hb2 := Lib.hid ((b1.mono (O' := QB Q An Af) (fun j h => .inr (.inl h))).same (chg_set w1 Q 2 (.slice A' (n + 1) c') (QB Q An Af) (.inl rfl)))
  rw [hlen] at hp
  have hpH := Lib.hid hp
  have hc2' := hp.c2
  rw [hlen] at hc2'
  have hA1H := Lib.hid hA1
  clear hp hown' hgrow hblk b1 hrow hrow2 hA1 hF1 hlen hown2
  have wn : IntKind.i64.wrap (((n + 1 : Nat) : Int) - 1) = (n : Int) := by rw [IntWalk.i64_in _ (by omega)]; omega
  have wn2 : IntKind.i64.wrap ((n : Int) + 1 - 1) = (n : Int) := by rw [IntWalk.i64_in _ (by omega)]; omega
  go_wp2
  go_ret
  refine ⟨rfl, A', c', Af, cf, hpH.out, hb2.out, fun j hj => ?_⟩
  rcases hj with rfl | hj | hj
  · exact .inl (.inl rfl)
  · rcases hA1H.out j hj with h | h
    · exact .inl (.inr (.inl h))
    · right; omega
  · exact .inl (.inr (.inr hj))
end
end Go.Proofs.YtlmpkpidfkbckaaDoor
