
/- A place of a pool is freed; a pool is cleared; the texts walked. -/
import Derived.Test.YtihhkdcgnnfkkaaPObj3
namespace Go.Proofs.Ytihhkdcgnnfkkaa.Pp
set_option maxRecDepth 4000
open Go.RowKit
theorem po_set3 {w : World} {B P M lim cn : Nat} {An : Option Addr} {x : Value} {ns : List (Nat × Bool)} (hrow : w.heap[P]? = some (.cells #[.pointer (some ⟨M, 0, none⟩), .int .i64 (lim : Int), .slice An ns.length cn, x] 76 (0, 0)))
    {Af' : Option Addr} {cf' : Nat} {fs' : List Nat} (hnod : w.ownsRow B 84 2 (.slice An ns.length cn) ns.length (nv ns)) (hf : w.ownsRow B 3 1 (.slice Af' fs'.length cf') fs'.length (iv fs')) (hB : B ≤ P) (n1 : ∀ a, An = some a → a.block ≠ P)
    (h2 : ∀ a, Af' = some a → a.block ≠ P) (h3 : ∀ a b, An = some a → Af' = some b → a.block ≠ b.block) (hin : ∀ i ∈ fs', i < ns.length) (hlim : lim ≤ 1048576) (hn : ns.length ≤ 2097152) (hle : fs'.length ≤ ns.length) :
    Po (w.setCell ⟨P, 3, none⟩ (.slice Af' fs'.length cf')) B P M lim An cn Af' cf' ns fs' := by
  have b := but_set w P 3 (.slice Af' fs'.length cf') (· = P) rfl
  refine ⟨?_, ?_, ?_, hB, n1, h2, h3, hin, hlim, hn, hle⟩
  · have := set_heap hrow 3 (.slice Af' fs'.length cf')
    simpa using this
  · exact b.own hnod (fun k hk => by
      cases An with
      | none => simp [Value.ownBlock] at hk
      | some a => simp [Value.ownBlock] at hk; subst hk; exact n1 a rfl)
  · exact b.own hf (fun k hk => by
      cases Af' with
      | none => simp [Value.ownBlock] at hk
      | some a => simp [Value.ownBlock] at hk; subst hk; exact h2 a rfl)
theorem int_info' : (Try.prog.info? 3).map (fun i => (i.zero, i.size, i.bytes)) = some (some (.int .i64 0), 1, 8) := by kernel_rfl
section
variable (w : World) (B P M lim cn cf : Nat) (An Af : Option Addr) (ns : List (Nat × Bool)) (fs : List Nat)
theorem p_free_yes (a : Po w B P M lim An cn Af cf ns fs) (k : Nat) (hk : k < ns.length) (ht : ns[k].2 = true) (hfl : fs.length + 1 ≤ ns.length) :
    Calls Try.prog 26 #[.pointer (some ⟨P, 0, none⟩), .int .i64 (k : Int)] w fun e w' => e = .returned (.bool true) ∧ PStep w B P M lim An Af (ns.set k (0, false)) (fs ++ [k]) w' := by
  have hl := Lib.hid (p_live w B P M lim cn cf An Af ns fs a k)
  have hr : lv ns (k : Int) = true := by
    unfold lv
    simp [hk, ht]
  rw [hr] at hl
  obtain ⟨i0, hi, hz0, hz1, hz2⟩ := info_parts' int_info'
  have hc2 := a.c2
  have hPlt := a.lt
  obtain ⟨g, rfl, hgP, hv, hv2, hfr⟩ := a.at hk
  have hf0 := hfr (k * 2)
  have hf1 := hfr (k * 2 + 1)
  have k1 : (k : Int) < (ns.length : Int) := by omega
  have hp : Po ((w.setCell ⟨g, k * 2, none⟩ (.int .u64 0)).setCell ⟨g, k * 2 + 1, none⟩ (.bool false)) B P M lim (some ⟨g, 0, none⟩) cn Af cf (ns.set k (0, false)) fs := a.place hk 0 false
  have hb0 := but_place w g (k * 2) (.int .u64 0) (.bool false) (PB P (some ⟨g, 0, none⟩) Af) (.inr (.inl rfl))
  have hz : ((w.setCell ⟨g, k * 2, none⟩ (.int .u64 0)).setCell ⟨g, k * 2 + 1, none⟩ (.bool false)).heap.size = w.heap.size := by simp [World.setCell]
  obtain ⟨w2, hw2⟩ : ∃ w2, (w.setCell ⟨g, k * 2, none⟩ (.int .u64 0)).setCell ⟨g, k * 2 + 1, none⟩ (.bool false) = w2 := ⟨_, rfl⟩
  rw [hw2] at hp hb0 hz
  have hc3 := hp.c3
  rw [← hw2] at hc3
  have hw2H := Lib.hid hw2
  clear hw2
  have hown := Lib.hid (hp.freed.alloc (.cells #[.int .i64 (k : Int)] 3))
  have hrd : Hid (Reads (w2.alloc (.cells #[.int .i64 (k : Int)] 3)) (w2.heap.size + 1) 1 (some ⟨w2.heap.size, 0, none⟩) 1 [.int .i64 (k : Int)]) := by
    refine ⟨rfl, fun _ => ⟨_, rfl, by show w2.heap.size < _; omega, fun j u hu => ?_⟩⟩
    match j, hu with
    | 0, hu => simp at hu; subst hu; simp [Addr.add]
  rw [hz] at hrd
  have hB : Hid (B ≤ (w2.alloc (.cells #[.int .i64 (k : Int)] 3)).heap.size) := by show _ ≤ _; have := a.base; simp; omega
  have hfm : fs.length ≤ 2097152 := Nat.le_trans a.fs_le a.ns_le
  have hpH := Lib.hid hp
  have hb0H := Lib.hid hb0
  clear a hr ht hfr hp hb0
  generalize hfn : fs.length = m at *
  have hfnH := Lib.hid hfn
  clear hfn
  go_enter Try.func26, Try.ntmps26
  go_wp2_with (first
    | (go_at_call 39; (with_reducible refine hl.out.mono ?_); rintro e w' ⟨rfl, rfl⟩)
    | (at_builtin; rw [hw2H.out]; refine wpList_append_any _ rfl _ _ 74 rfl B 3 i0 _ 1 8 Try.underlying74 hi hz0 hz1 hz2 rfl (by decide) _ _ _ rfl hown.out (w.heap.size + 1) _ 1 1 _ rfl hrd.out ?c1 ?c2 ?c3 hB.out ?_))
  case c2 => unfold maxLen; omega
  case c3 => omega
  all_goals try (case c1 => intro u hu; simp at hu; subst hu; rfl)
  intro v' w1 hown' hgrow hblk
  obtain ⟨A', c', rfl⟩ := own_form hown'
  have hsl : (w2.alloc (.cells #[.int .i64 (k : Int)] 3)).heap.size = w.heap.size + 1 := by simp [hz]
  have hPo : Value.ownBlock (.slice Af m cf) ≠ some P := by
    intro e
    cases Af with
    | none => simp [Value.ownBlock] at e
    | some x => simp [Value.ownBlock] at e; exact hpH.out.n2 x rfl e
  have b1 : ButS w2 w1 (PB P (some ⟨g, 0, none⟩) Af) := (but_alloc w2 _ _).trans (ButS.of_grown hgrow (fun j e => .inr (.inr (by
    cases Af with
    | none => simp [Value.ownBlock] at e
    | some x => simpa [Value.ownBlock] using e))))
  have hrow : w1.heap[P]? = w2.heap[P]? := (hgrow.block P (by rw [hsl]; omega) (fun e => hPo e.symm)).trans (Below.heap_alloc _ _ _ (by rw [hz]; exact hPlt))
  have hrow2 := hrow.trans hpH.out.row
  have hcP : w1.cell? ⟨P, 3, none⟩ = some (.slice Af m cf) := by
    have := cell_of_row w1 P 3 _ _ (0, 0) hrow2
    rw [hfnH.out] at this
    exact this
  have hfP : w1.frozen? ⟨P, 3, none⟩ = false := by simp [World.frozen?, hrow2]
  have hA1 : ∀ a, A' = some a → Af.map (·.block) = some a.block ∨ a.block = w.heap.size + 1 := by
    intro a e
    subst e
    rcases hblk with h | h
    · left
      cases Af with
      | none => simp [Value.ownBlock] at h
      | some x => simp [Value.ownBlock] at h; simp [h]
    · right
      simp [Value.ownBlock] at h; exact h
  have hA2 : ∀ a, A' = some a → a.block ≠ P := by
    intro a e hh
    rcases hA1 a e with h | h
    · cases Af with
      | none => simp at h
      | some x => simp at h; exact hpH.out.n2 x rfl (h.trans hh)
    · omega
  have hgl : g < w.heap.size := by have := (hpH.out.pb (j := g) (.inr (.inl rfl))).2; omega
  have hAf : ∀ a b, (some (⟨g, 0, none⟩ : Addr)) = some a → A' = some b → a.block ≠ b.block := by
    intro a b e e' hh
    obtain rfl : (⟨g, 0, none⟩ : Addr) = a := by simpa using e
    rcases hA1 b e' with h | h
    · cases Af with
      | none => simp at h
      | some x => simp at h; exact hpH.out.n3 _ x rfl rfl (hh.trans h.symm)
    · simp at hh; omega
  have hN1 : w1.ownsRow B 84 2 (.slice (some ⟨g, 0, none⟩) (ns.set k (0, false)).length cn) (ns.set k (0, false)).length (nv (ns.set k (0, false))) := by
    refine ((hpH.out.nodes.alloc (.cells #[.int .i64 (k : Int)] 3)).kept hgrow (.inr ?_))
    intro e
    cases Af with
    | none => simp [Value.ownBlock] at e
    | some y => simp [Value.ownBlock] at e; exact hpH.out.n3 _ y rfl rfl e
  have hlen : (fs ++ [k]).length = m + 1 := by simp [hfnH.out]
  have hsl2 : (ns.set k (0, false)).length = ns.length := List.length_set ..
  have hown2 : w1.ownsRow B 3 1 (.slice A' (fs ++ [k]).length c') (fs ++ [k]).length (iv (fs ++ [k])) := by
    rw [hlen]
    simpa [iv] using hown'
  have hp := po_set3 hrow2 hN1 hown2 hpH.out.base hpH.out.n1 hA2 hAf (by
    intro i hi
    rcases List.mem_append.1 hi with h | h
    · exact hpH.out.inr i h
    · simp at h; subst h; rw [hsl2]; exact hk) hpH.out.lim_le hpH.out.ns_le (by rw [hlen, hsl2]; exact hfl)
  rw [hlen] at hp
  have hp2 := Lib.hid hp
  have hb2 := Lib.hid (hb0H.out.trans (b1.trans (but_set w1 P 3 (.slice A' (m + 1) c') _ (.inl rfl))))
  have hA1H := Lib.hid hA1
  clear hp hown' hgrow hblk hPo b1 hrow hrow2 hA1 hA2 hAf hlen hown2 hsl2 hN1 hgl
  go_wp2
  go_ret
  refine ⟨rfl, _, cn, A', c', hp2.out, hb2.out, fun j hj => ?_⟩
  rcases hj with rfl | hj | hj
  · exact .inl (.inl rfl)
  · exact .inl (.inr (.inl hj))
  · cases A' with
    | none => simp at hj
    | some a =>
      simp at hj
      rcases hA1H.out a rfl with h | h
      · left; right; right; rw [← hj]; exact h
      · right; omega
end
end Go.Proofs.Ytihhkdcgnnfkkaa.Pp
