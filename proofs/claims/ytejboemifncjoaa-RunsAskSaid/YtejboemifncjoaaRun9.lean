
/- runs.Of and runs.gaps; the texts walked. -/
import Derived.Test.YtejboemifncjoaaRun8
namespace Go.Proofs.Ytejboemifncjoaa
open Go.RowKit
theorem joined_any (w : World) (base n : Nat) (v : Value) (ls : List (Int × Int)) (ho : w.ownsRow base 46 2 v n (rv ls)) (hl : ls.length = n) (hg : ∀ r, r ∈ ls → Rn.Good r) (hb : base ≤ w.heap.size) (few : n ≤ 1000000) :
    Calls Try.prog 38 #[v] w (JoinedP w base ls) := by
  rcases ho.2 with ⟨rfl, h0⟩ | ⟨g, cap, cur, rfl, _⟩
  · have : ls = [] := List.eq_nil_of_length_eq_zero (by omega)
    subst this
    exact r_joined_nil w base 0
  · exact r_joined w base g n cap ls ho hl hg hb few
theorem rv_set2 : ∀ (L : List (Int × Int)) (k : Nat) (a b : Int), rv (L.set k (a, b)) = ((rv L).set (k * 2) (.int .u16 a)).set (k * 2 + 1) (.int .u16 b)
  | [], k, a, b => by simp [rv]
  | r :: L, 0, a, b => by simp [rv]
  | r :: L, k + 1, a, b => by
    have hc : rv (r :: L) = Value.int .u16 r.1 :: Value.int .u16 r.2 :: rv L := rfl
    have e0 : (k + 1) * 2 = k * 2 + 2 := by omega
    rw [List.set_cons_succ, hc, e0]
    show Value.int .u16 r.1 :: Value.int .u16 r.2 :: rv (L.set k (a, b)) = _
    rw [rv_set2 L k a b]
    rfl
/-- The first k numbers, each a run; the others not yet laid. -/
def ones (xs : List Int) (k : Nat) : List (Int × Int) := (xs.take k).map (fun x => (x, x)) ++ List.replicate (xs.length - k) (0, 0)
theorem ones_len {xs : List Int} {k : Nat} (h : k ≤ xs.length) : (ones xs k).length = xs.length := by
  unfold ones
  rw [List.length_append, List.length_map, List.length_take, List.length_replicate]
  omega
theorem ones_step {xs : List Int} {k : Nat} (h : k < xs.length) : (ones xs k).set k (xs[k], xs[k]) = ones xs (k + 1) := by
  unfold ones
  have hl : ((xs.take k).map (fun x => (x, x))).length = k := by rw [List.length_map, List.length_take]; omega
  obtain ⟨m, hm⟩ : ∃ m, xs.length - k = m + 1 := ⟨xs.length - k - 1, by omega⟩
  have hm2 : xs.length - (k + 1) = m := by omega
  rw [List.set_append_right _ _ (by omega), hl, Nat.sub_self, hm, hm2, List.replicate_succ, List.set_cons_zero, take_snocH h, List.map_append, List.append_assoc]
  rfl
theorem ones_all (xs : List Int) : ones xs xs.length = xs.map fun x => (x, x) := by
  unfold ones
  rw [List.take_length, Nat.sub_self, List.replicate_zero, List.append_nil]
theorem V_ones (xs : List Int) (x : Int) : Rn.V (xs.map fun x => (x, x)) x ↔ x ∈ xs := by
  constructor
  · rintro ⟨r, hr, h1, h2⟩
    obtain ⟨y, hy, rfl⟩ := List.mem_map.1 hr
    have h1 : y ≤ x := h1
    have h2 : x ≤ y := h2
    have : x = y := by omega
    exact this ▸ hy
  · exact fun h => ⟨(x, x), List.mem_map.2 ⟨x, h, rfl⟩, Int.le_refl _, Int.le_refl _⟩
theorem rv_zero (n : Nat) : rv (List.replicate n (0, 0)) = List.replicate (n * 2) (Value.int .u16 0) := by
  induction n with
  | zero => rfl
  | succ n ih =>
    have e : (n + 1) * 2 = n * 2 + 1 + 1 := by omega
    rw [List.replicate_succ, e, List.replicate_succ, List.replicate_succ, ← ih]
    rfl
theorem made_rv (n : Nat) : madeCells #[Value.int .u16 0, Value.int .u16 0] (n * 2) = (rv (List.replicate n (0, 0))).toArray := by
  rw [rv_zero]
  apply Array.ext
  · simp [madeCells]
  · intro i h1 h2
    simp only [madeCells, Array.getElem_map, Array.getElem_range, List.getElem_toArray, List.getElem_replicate]
    rcases Nat.mod_two_eq_zero_or_one i with e | e
    · show #[Value.int .u16 0, Value.int .u16 0][i % 2]! = _
      rw [e]; rfl
    · show #[Value.int .u16 0, Value.int .u16 0][i % 2]! = _
      rw [e]; rfl
theorem mk_runs (c : Nat) (hn : c ≤ 2199023255552) (w : World) : (Instr.makeSlice 24 (.int .i64 (c : Int)) (.int .i64 (c : Int))).run Try.prog w = .ok (.slice (some ⟨w.heap.size, 0, none⟩) c c) (w.alloc (.cells (rv (List.replicate c (0, 0))).toArray 46)) := by
  obtain ⟨ti, hi, hz, hsz, hb⟩ : ∃ ti, Try.prog.info? 46 = some ti ∧ ti.zero = some (.agg #[.int .u16 0, .int .u16 0]) ∧ ti.size = 2 ∧ ti.bytes = 4 := ⟨_, rfl, rfl, rfl, rfl⟩
  have := run_make (P := Try.prog) w 24 46 ti _ (by kernel_rfl) hi hz .i64 .i64 (c : Int) (c : Int) (by omega) (by omega) (by rw [hb]; omega) (by omega)
  rw [← made_rv]
  simpa [hsz, Value.cells] using this
def OfP (w : World) (n : Nat) (S : Int → Prop) (e : Ending) (w' : World) : Prop := ∃ (val : Value) (qs : List (Int × Int)), e = .returned val ∧ Rn.Ok qs ∧ (∀ x, Rn.V qs x ↔ S x) ∧ qs.length ≤ n ∧ w'.ownsRow w.heap.size 46 2 val qs.length (rv qs) ∧ Below w.heap.size w w'
set_option maxHeartbeats 8000000 in
set_option maxRecDepth 100000 in
theorem r_of (w : World) (B n c : Nat) (A : Option Addr) (xs : List Int) (hn : n = xs.length) (hr : Rh w B A xs) (hB : B ≤ w.heap.size) (hx : ∀ y ∈ xs, 0 ≤ y ∧ y ≤ 65535) (few : n ≤ 1000000) :
    Calls Try.prog 21 #[.slice A n c] w (OfP w n fun x => x ∈ xs) := by
  have hmk := mk_runs n (by omega)
  have HR := Lib.hid hr
  have HN := Lib.hid hn
  have HX := Lib.hid hx
  have ho1 : (w.alloc (.cells (rv (List.replicate n (0, 0))).toArray 46)).ownsRow w.heap.size 46 2 (.slice (some ⟨w.heap.size, 0, none⟩) n n) n (rv (ones xs 0)) := by
    have e : ones xs 0 = List.replicate n (0, 0) := by unfold ones; rw [hn]; simp
    rw [e]
    refine ⟨by rw [rv_len, List.length_replicate], .inr ⟨w.heap.size, n, _, rfl, Nat.le_refl _, alloc_topI w _, Nat.le_refl _, by unfold maxLen; omega, ?_, ?_⟩⟩
    · rw [List.size_toArray, rv_len, List.length_replicate]
    · exact List.take_of_length_le (by rw [List.toList_toArray, rv_len, List.length_replicate]; exact Nat.le_refl _)
  have HO1 := Lib.hid ho1
  have HB1 := Lib.hid ((Below.refl w.heap.size w).alloc (Nat.le_refl _) (.cells (rv (List.replicate n (0, 0))).toArray 46))
  clear ho1 hr hn hx
  go_enter Try.func21, Try.ntmps21
  go_wp2
  generalize w.alloc (.cells (rv (List.replicate n (0, 0))).toArray 46) = W0 at *
  obtain ⟨g, hg⟩ : ∃ g, g = w.heap.size := ⟨_, rfl⟩
  rw [← hg]
  rw [← hg] at HO1
  have HG := Lib.hid hg
  clear hg hmk
  go_loopw [11] (fun vi wr => ∃ k : Nat, k ≤ n ∧ vi = .int .i64 k ∧ Hid (wr.ownsRow g 46 2 (.slice (some ⟨g, 0, none⟩) n n) n (rv (ones xs k))) ∧ Hid (Below w.heap.size w wr)) (fun vi _ => n - (intOf vi).toNat)
  case atStart => exact ⟨0, Nat.zero_le _, rfl, HO1, HB1⟩
  case round =>
    obtain ⟨k, hk, rfl, HO, HW⟩ := hrel
    by_cases hlt : k < n
    · have hkx : k < xs.length := by rw [← HN.out]; exact hlt
      obtain ⟨b, off, rfl, _, hc⟩ := (HR.out.below HW.out hB).at hkx
      have hst := Lib.hid (ones_step hkx)
      obtain ⟨y, hy⟩ : ∃ y, y = xs[k] := ⟨_, rfl⟩
      rw [← hy] at hc hst
      have hol := ones_len (Nat.le_of_lt hkx)
      obtain ⟨_, _, hfo, _, _, _, hfz⟩ := own_formR HO.out (by omega)
      cases hfo
      have hf1 := hfz (k * 2)
      have hf2 := hfz (k * 2 + 1)
      have f := HO.out.cells (g := g) rfl
      obtain ⟨r0, r1⟩ := rv_at (ones xs k) k (by rw [hol]; exact hkx)
      have m1 := f _ _ r0
      have m2 := f _ _ r1
      simp only [add_offB] at m1 m2
      replace m1 : ∃ p, wr.cell? ⟨g, k * 2, none⟩ = some (.int .u16 p) := ⟨_, m1⟩
      replace m2 : ∃ p, wr.cell? ⟨g, k * 2 + 1, none⟩ = some (.int .u16 p) := ⟨_, m2⟩
      obtain ⟨p1, m1⟩ := m1
      obtain ⟨p2, m2⟩ := m2
      have HON := Lib.hid (own_set (j := k * 2 + 1) (u := .int .u16 y) (own_set (j := k * 2) (u := .int .u16 y) HO.out))
      have HWN : Hid (Below w.heap.size w ((wr.setCell ⟨g, k * 2, none⟩ (.int .u16 y)).setCell ⟨g, k * 2 + 1, none⟩ (.int .u16 y))) := Lib.hid ((HW.out.grown (set_grownB wr g (k * 2) _) HW.out.size (fun j e => by cases e; exact Nat.le_of_eq HG.out.symm)).grown (set_grownB _ g (k * 2 + 1) _) (by have := HW.out.size; simp [World.setCell]; exact this) (fun j e => by cases e; exact Nat.le_of_eq HG.out.symm))
      clear hy f r0 r1 hfz hol
      go_wp2
      go_roundw
      case rel => exact ⟨k + 1, by omega, by go_num, Lib.hid (by rw [← hst.out, rv_set2]; exact HON.out), HWN⟩
      case measure => simp [intOf]; omega
    · obtain rfl : k = n := by omega
      have HJ := Lib.hid (joined_any wr g k (.slice (some ⟨g, 0, none⟩) k k) (xs.map fun x => (x, x)) (by have h := HO.out; rw [HN.out, ones_all, ← HN.out] at h; exact h) (by rw [List.length_map, HN.out]) (fun r hr => by
        obtain ⟨y, hy, rfl⟩ := List.mem_map.1 hr
        have := HX.out y hy
        exact ⟨this.1, Int.le_refl _, this.2⟩) (by rw [HG.out]; exact HW.out.size) few)
      go_wp2_with (go_at_call 38; (with_reducible refine HJ.out.mono ?_); rintro e w2 ⟨val, qs, rfl, j1, j2, j3, j4, j5⟩; replace j1 := Lib.hid j1; replace j2 := Lib.hid j2; replace j3 := Lib.hid j3; replace j4 := Lib.hid j4; replace j5 := Lib.hid j5)
      go_ret
      refine ⟨val, qs, rfl, j1.out, fun x => (j2.out x).trans (V_ones xs x), by have := j3.out; rw [List.length_map] at this; have := HN.out; omega, by rw [← HG.out]; exact j4.out, ?_⟩
      have h := j5.out
      rw [HG.out] at h
      exact HW.out.trans h
end Go.Proofs.Ytejboemifncjoaa
