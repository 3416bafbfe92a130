
/- The reference's pool in memory, its rows; how many are taken, and is one taken? -/
import Derived.Test.YtpgmgldhpagieaaPObj
namespace Go.Proofs.Ytpgmgldhpagieaa
open Go.RowKit
abbrev vv (ns : List (Nat × Bool)) : List Value := ns.map fun x => Value.int .u64 (x.1 : Int)
abbrev lbv (ns : List (Nat × Bool)) : List Value := ns.map fun x => Value.bool x.2
/-- Two rows don't share a block, and none is the struct's. -/
def Apart (a b : Option Addr) : Prop := ∀ x y, a = some x → b = some y → x.block ≠ y.block
def Off (a : Option Addr) (R : Nat) : Prop := ∀ x, a = some x → x.block ≠ R
/-- Block R is the reference's pool: values, taken or not, the freed ones, its limit, its reads. -/
structure Rf (w : World) (B R lim r : Nat) (Av : Option Addr) (cv : Nat) (Al : Option Addr) (cl : Nat) (Af : Option Addr) (cf : Nat) (ns : List (Nat × Bool)) (fs : List Nat) : Prop where
  row : w.heap[R]? = some (.cells #[.slice Av ns.length cv, .slice Al ns.length cl, .slice Af fs.length cf, .int .i64 (lim : Int), .int .i64 (r : Int)] 37 (0, 0))
  vals : w.ownsRow B 31 1 (.slice Av ns.length cv) ns.length (vv ns)
  live : w.ownsRow B 4 1 (.slice Al ns.length cl) ns.length (lbv ns)
  freed : w.ownsRow B 3 1 (.slice Af fs.length cf) fs.length (iv fs)
  base : B ≤ R
  ov : Off Av R
  ol : Off Al R
  oF : Off Af R
  vl : Apart Av Al
  vf : Apart Av Af
  lf : Apart Al Af
  inr : ∀ i ∈ fs, i < ns.length
  ns_le : ns.length ≤ 2097152
  fs_le : fs.length ≤ ns.length
section
variable {w w' : World} {B R lim r cv cl cf : Nat} {Av Al Af : Option Addr} {ns : List (Nat × Bool)} {fs : List Nat}
theorem Rf.c0 (h : Rf w B R lim r Av cv Al cl Af cf ns fs) : w.cell? ⟨R, 0, none⟩ = some (.slice Av ns.length cv) := cell_of_row w R 0 _ _ (0, 0) h.row
theorem Rf.c1 (h : Rf w B R lim r Av cv Al cl Af cf ns fs) : w.cell? ⟨R, 1, none⟩ = some (.slice Al ns.length cl) := cell_of_row w R 1 _ _ (0, 0) h.row
theorem Rf.c2 (h : Rf w B R lim r Av cv Al cl Af cf ns fs) : w.cell? ⟨R, 2, none⟩ = some (.slice Af fs.length cf) := cell_of_row w R 2 _ _ (0, 0) h.row
theorem Rf.c3 (h : Rf w B R lim r Av cv Al cl Af cf ns fs) : w.cell? ⟨R, 3, none⟩ = some (.int .i64 (lim : Int)) := cell_of_row w R 3 _ _ (0, 0) h.row
theorem Rf.c4 (h : Rf w B R lim r Av cv Al cl Af cf ns fs) : w.cell? ⟨R, 4, none⟩ = some (.int .i64 (r : Int)) := cell_of_row w R 4 _ _ (0, 0) h.row
theorem Rf.fr (h : Rf w B R lim r Av cv Al cl Af cf ns fs) (k : Nat) : w.frozen? ⟨R, k, none⟩ = false := by
  have := h.row
  simp [World.frozen?, this]
theorem Rf.lt (h : Rf w B R lim r Av cv Al cl Af cf ns fs) : R < w.heap.size := (Array.getElem?_eq_some_iff.1 h.row).1
theorem Rf.drew (h : Rf w B R lim r Av cv Al cl Af cf ns fs) (n : Nat) : Rf (w.drewN n) B R lim r Av cv Al cl Af cf ns fs :=
  ⟨h.row, h.vals, h.live, h.freed, h.base, h.ov, h.ol, h.oF, h.vl, h.vf, h.lf, h.inr, h.ns_le, h.fs_le⟩
/-- The blocks of a reference's pool. -/
def RB (R : Nat) (Av Al Af : Option Addr) (j : Nat) : Prop := j = R ∨ Av.map (·.block) = some j ∨ Al.map (·.block) = some j ∨ Af.map (·.block) = some j
theorem own_block {A : Option Addr} {n c k : Nat} (hk : (Value.slice A n c).ownBlock = some k) : A.map (·.block) = some k := by
  cases A with
  | none => simp [Value.ownBlock] at hk
  | some a => simpa [Value.ownBlock] using hk
theorem block_own {A : Option Addr} {n c k : Nat} (hk : A.map (·.block) = some k) : (Value.slice A n c).ownBlock = some k := by
  cases A with
  | none => simp at hk
  | some a => simp at hk; simp [Value.ownBlock, hk]
theorem Rf.rb (h : Rf w B R lim r Av cv Al cl Af cf ns fs) {j : Nat} (hj : RB R Av Al Af j) : B ≤ j ∧ j < w.heap.size := by
  rcases hj with rfl | hj | hj | hj
  · exact ⟨h.base, h.lt⟩
  · exact h.vals.lt j (block_own hj)
  · exact h.live.lt j (block_own hj)
  · exact h.freed.lt j (block_own hj)
theorem Rf.but {S : Nat → Prop} (h : Rf w B R lim r Av cv Al cl Af cf ns fs) (b : ButS w w' S) (hS : ∀ j, RB R Av Al Af j → ¬ S j) : Rf w' B R lim r Av cv Al cl Af cf ns fs :=
  ⟨(b.block R h.lt (hS R (.inl rfl))).trans h.row,
   b.own h.vals (fun k hk => hS k (.inr (.inl (own_block hk)))),
   b.own h.live (fun k hk => hS k (.inr (.inr (.inl (own_block hk))))),
   b.own h.freed (fun k hk => hS k (.inr (.inr (.inr (own_block hk))))),
   h.base, h.ov, h.ol, h.oF, h.vl, h.vf, h.lf, h.inr, h.ns_le, h.fs_le⟩
theorem Rf.val_at (h : Rf w B R lim r Av cv Al cl Af cf ns fs) {i : Nat} (hi : i < ns.length) : ∃ g, Av = some ⟨g, 0, none⟩ ∧ g ≠ R ∧ w.cell? ⟨g, i, none⟩ = some (.int .u64 (ns[i].1 : Int)) ∧ ∀ k, w.frozen? ⟨g, k, none⟩ = false := by
  obtain ⟨g, rfl⟩ := own_some h.vals (by omega)
  exact ⟨g, rfl, h.ov _ rfl, (h.vals.cellAt i (by omega)).trans (by simp [vv, hi]), fun k => h.vals.frozenAt k⟩
theorem Rf.live_at (h : Rf w B R lim r Av cv Al cl Af cf ns fs) {i : Nat} (hi : i < ns.length) : ∃ g, Al = some ⟨g, 0, none⟩ ∧ g ≠ R ∧ w.cell? ⟨g, i, none⟩ = some (.bool ns[i].2) ∧ ∀ k, w.frozen? ⟨g, k, none⟩ = false := by
  obtain ⟨g, rfl⟩ := own_some h.live (by omega)
  exact ⟨g, rfl, h.ol _ rfl, (h.live.cellAt i (by omega)).trans (by simp [lbv, hi]), fun k => h.live.frozenAt k⟩
theorem Rf.free_at (h : Rf w B R lim r Av cv Al cl Af cf ns fs) {i : Nat} (hi : i < fs.length) : ∃ g, Af = some ⟨g, 0, none⟩ ∧ g ≠ R ∧ w.cell? ⟨g, i, none⟩ = some (.int .i64 (fs[i] : Int)) ∧ ∀ k, w.frozen? ⟨g, k, none⟩ = false := by
  obtain ⟨g, rfl⟩ := own_some h.freed (by omega)
  exact ⟨g, rfl, h.oF _ rfl, (h.freed.cellAt i (by omega)).trans (by simp [iv, hi]), fun k => h.freed.frozenAt k⟩
/-- How many are taken. -/
def tkn (ns : List (Nat × Bool)) : Nat := (ns.filter (·.2)).length
theorem tkn_le (ns : List (Nat × Bool)) : tkn ns ≤ ns.length := List.length_filter_le _ _
theorem tkn_snoc (ns : List (Nat × Bool)) (x : Nat × Bool) : tkn (ns ++ [x]) = tkn ns + if x.2 then 1 else 0 := by
  unfold tkn
  rw [List.filter_append, List.length_append]
  cases h : x.2 <;> simp [h]
theorem r_taken (a : Rf w B R lim r Av cv Al cl Af cf ns fs) (i : Int) :
    Calls Try.prog 26 #[.pointer (some ⟨R, 0, none⟩), .int .i64 i] w fun e w' => e = .returned (.bool (lv ns i)) ∧ w = w' := by
  have hc1 := a.c1
  have hle := a.ns_le
  by_cases h0 : 0 ≤ i
  · obtain ⟨k, rfl⟩ : ∃ k : Nat, i = (k : Int) := ⟨i.toNat, by omega⟩
    have g0 : decide (0 ≤ (k : Int)) = true := decide_eq_true h0
    by_cases hk : k < ns.length
    · obtain ⟨g, rfl, _, ha, _⟩ := a.live_at hk
      have hr : Hid (lv ns (k : Int) = ns[k].2) := by
        show lv ns (k : Int) = _
        unfold lv
        simp [hk]
      have g1 : decide ((k : Int) < (ns.length : Int)) = true := decide_eq_true (by omega)
      have k1 : (k : Int) < (ns.length : Int) := by omega
      have k2 : (k : Int).toNat = k := by omega
      clear a
      generalize ns[k].2 = b at *
      go_enter Try.func26, Try.ntmps26
      go_wp2
      go_ret
      exact ⟨ret_bool hr.out.symm, rfl⟩
    · have hr : Hid (lv ns (k : Int) = false) := by
        show lv ns (k : Int) = _
        unfold lv
        rw [Int.toNat_natCast, List.getElem?_eq_none (by omega)]
        simp
      have g1 : decide ((k : Int) < (ns.length : Int)) = false := decide_eq_false (by omega)
      clear a
      generalize ns.length = n at *
      go_enter Try.func26, Try.ntmps26
      go_wp2
      go_ret
      exact ⟨ret_bool hr.out.symm, rfl⟩
  · have g0 : decide (0 ≤ i) = false := decide_eq_false h0
    have hr : Hid (lv ns i = false) := by
      show lv ns i = _
      unfold lv
      rw [g0]; rfl
    clear a
    go_enter Try.func26, Try.ntmps26
    go_wp2
    go_ret
    exact ⟨ret_bool hr.out.symm, rfl⟩
theorem r_len (a : Rf w B R lim r Av cv Al cl Af cf ns fs) (q : Int) (hq : q = (tkn ns : Int)) :
    Calls Try.prog 10 #[.pointer (some ⟨R, 0, none⟩)] w fun e w' => e = .returned (.int .i64 q) ∧ w = w' := by
  have hc1 := a.c1
  have hle := a.ns_le
  have hat := fun k (hk : k < ns.length) => a.live_at hk
  have hatH := Lib.hid hat
  have hqH := Lib.hid hq
  clear hat hq a
  go_enter Try.func10, Try.ntmps10
  go_wp2
  go_loopw [3, 11] (fun n i wr => ∃ k : Nat, k ≤ ns.length ∧ n = .int .i64 (tkn (ns.take k) : Int) ∧ i = .int .i64 k ∧ wr = w) (fun _ i _ => ns.length - (intOf i).toNat)
  case atStart => exact ⟨0, by omega, by simp [tkn], rfl, rfl⟩
  case round =>
    obtain ⟨k, hk, rfl, rfl, rfl⟩ := hrel
    have htl := tkn_le (ns.take k)
    have htl2 : (ns.take k).length ≤ k := List.length_take_le _ _
    by_cases hlt : k < ns.length
    · have hT : decide ((k : Int) < (ns.length : Int)) = true := decide_eq_true (by omega)
      have k1 : (k : Int) < (ns.length : Int) := by omega
      have k2 : (k : Int).toNat = k := by omega
      obtain ⟨g, rfl, _, ha, _⟩ := hatH.out k hlt
      have hs := Lib.hid (tkn_snoc (ns.take k) ns[k])
      rw [← List.take_succ_eq_append_getElem hlt] at hs
      generalize tkn (ns.take k) = C at *
      cases hb : ns[k].2
      all_goals
        rw [hb] at hs ha
        clear hb
        go_wp2
        go_roundw
        case rel => exact ⟨k + 1, by omega, by rw [hs.out]; first | rfl | go_num, by go_num, (by first | rfl | trivial)⟩
        case measure => simp [intOf]; omega
    · obtain rfl : k = ns.length := by omega
      have hT : decide ((ns.length : Int) < (ns.length : Int)) = false := decide_eq_false (by omega)
      rw [List.take_length]
      go_wp2
      go_ret
      exact ⟨ret_int hqH.out.symm, rfl⟩
end
end Go.Proofs.Ytpgmgldhpagieaa
