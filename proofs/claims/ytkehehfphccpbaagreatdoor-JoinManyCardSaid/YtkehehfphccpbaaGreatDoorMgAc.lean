/- Plain facts: two rising lists are gone through side by side. array: the least of two lists; the text walked. array.join: two lists are gone through side by side; the text walked. array.join with the other closures; the text walked. -/
import Derived.Test.YtkehehfphccpbaaGreatDoorMgAb
section
namespace Go.Proofs.YtkehehfphccpbaaGreatDoor.M
/-- What is wanted: of what the first alone, the second alone, both have. -/
def Wt (p0 p1 p2 : Bool) (xs ys : List Int) (x : Int) : Prop := x ∈ xs ∧ x ∉ ys ∧ p0 = true ∨ x ∉ xs ∧ x ∈ ys ∧ p1 = true ∨ x ∈ xs ∧ x ∈ ys ∧ p2 = true
/-- a and b are left of xs and ys; zs is what was wanted of the rest. -/
structure Jn (p0 p1 p2 : Bool) (xs ys a b zs : List Int) : Prop where
  sa : a.Pairwise (· < ·)
  sb : b.Pairwise (· < ·)
  suba : ∀ x ∈ a, x ∈ xs
  subb : ∀ x ∈ b, x ∈ ys
  old : ∀ x y, x ∈ xs ∧ x ∉ a ∨ x ∈ ys ∧ x ∉ b → y ∈ a ∨ y ∈ b → x < y
  rise : zs.Pairwise (· < ·)
  mem : ∀ x, x ∈ zs ↔ Wt p0 p1 p2 xs ys x ∧ x ∉ a ∧ x ∉ b
section
variable {p0 p1 p2 : Bool} {xs ys a b zs : List Int}
theorem Jn.start (hx : xs.Pairwise (· < ·)) (hy : ys.Pairwise (· < ·)) : Jn p0 p1 p2 xs ys xs ys [] :=
  ⟨hx, hy, fun _ h => h, fun _ h => h, fun x y h => by rcases h with ⟨h1, h2⟩ | ⟨h1, h2⟩ <;> exact absurd h1 h2, List.Pairwise.nil, fun x => by
    constructor
    · intro h; cases h
    · rintro ⟨h | h | h, h2, h3⟩
      · exact absurd h.1 h2
      · exact absurd h.2.1 h3
      · exact absurd h.1 h2⟩
theorem Jn.wt_sub (x : Int) (h : Wt p0 p1 p2 xs ys x) : x ∈ xs ∨ x ∈ ys := by
  rcases h with h | h | h
  · exact .inl h.1
  · exact .inr h.2.1
  · exact .inl h.1
theorem Jn.step (h : Jn p0 p1 p2 xs ys a b zs) {v : Int} {a' b' : List Int} {q : Bool} (hv : v ∈ a ∨ v ∈ b) (ha : ∀ x, x ∈ a → x = v ∨ x ∈ a') (ha' : ∀ x ∈ a', x ∈ a) (hb : ∀ x, x ∈ b → x = v ∨ x ∈ b') (hb' : ∀ x ∈ b', x ∈ b)
    (hsa : a'.Pairwise (· < ·)) (hsb : b'.Pairwise (· < ·)) (hl : ∀ y, y ∈ a' ∨ y ∈ b' → v < y) (hq : q = true ↔ Wt p0 p1 p2 xs ys v) : Jn p0 p1 p2 xs ys a' b' (if q then zs ++ [v] else zs) := by
  have hz : ∀ x ∈ zs, x < v := fun x hx => by
    obtain ⟨h1, h2, h3⟩ := (h.mem x).1 hx
    rcases Jn.wt_sub x h1 with h4 | h4
    · exact h.old x v (.inl ⟨h4, h2⟩) hv
    · exact h.old x v (.inr ⟨h4, h3⟩) hv
  have hva : v ∉ a' := fun e => by have := hl v (.inl e); omega
  have hvb : v ∉ b' := fun e => by have := hl v (.inr e); omega
  refine ⟨hsa, hsb, fun x hx => h.suba x (ha' x hx), fun x hx => h.subb x (hb' x hx), fun x y hx hy => ?_, ?_, fun x => ?_⟩
  · have hvy := hl y hy
    have hy' : y ∈ a ∨ y ∈ b := hy.imp (ha' y) (hb' y)
    rcases hx with ⟨h1, h2⟩ | ⟨h1, h2⟩
    · by_cases hxa : x ∈ a
      · rcases ha x hxa with rfl | h3
        · exact hvy
        · exact absurd h3 h2
      · exact h.old x y (.inl ⟨h1, hxa⟩) hy'
    · by_cases hxb : x ∈ b
      · rcases hb x hxb with rfl | h3
        · exact hvy
        · exact absurd h3 h2
      · exact h.old x y (.inr ⟨h1, hxb⟩) hy'
  · cases q
    · exact h.rise
    · rw [if_pos rfl, List.pairwise_append]
      exact ⟨h.rise, by simp, fun x hx y hy => by rw [List.mem_singleton.1 hy]; exact hz x hx⟩
  · by_cases hxv : x = v
    · subst hxv
      have hnz : x ∉ zs := fun e => by have := hz x e; omega
      cases q
      · simp only [Bool.false_eq_true, if_false]
        exact ⟨fun e => absurd e hnz, fun e => absurd (hq.2 e.1) (by simp)⟩
      · rw [if_pos rfl]
        exact ⟨fun _ => ⟨hq.1 rfl, hva, hvb⟩, fun _ => by simp⟩
    · have e1 : x ∈ a ↔ x ∈ a' := ⟨fun e => (ha x e).resolve_left hxv, ha' x⟩
      have e2 : x ∈ b ↔ x ∈ b' := ⟨fun e => (hb x e).resolve_left hxv, hb' x⟩
      have e3 : x ∈ (if q then zs ++ [v] else zs) ↔ x ∈ zs := by
        cases q
        · simp
        · rw [if_pos rfl, List.mem_append, List.mem_singleton]; exact ⟨fun e => e.resolve_right hxv, .inl⟩
      rw [e3, h.mem x, e1, e2]
/-- The first's least is less than the second's, or the second has none. -/
theorem Jn.one {v : Int} (h : Jn p0 p1 p2 xs ys (v :: a) b zs) (hb : ∀ y, b.head? = some y → v < y) : Jn p0 p1 p2 xs ys a b (if p0 then zs ++ [v] else zs) := by
  have sa := List.pairwise_cons.1 h.sa
  have hlb : ∀ y ∈ b, v < y := by
    intro y hy
    cases b with
    | nil => cases hy
    | cons y0 b =>
      have q1 := hb y0 rfl
      rcases List.mem_cons.1 hy with rfl | hy
      · exact q1
      · have := (List.pairwise_cons.1 h.sb).1 y hy; omega
  have hvy : v ∉ ys := fun hv => by
    have hvb : v ∉ b := fun e => by have := hlb v e; omega
    have := h.old v v (.inr ⟨hv, hvb⟩) (.inl (by simp)); omega
  refine h.step (.inl (by simp)) (fun x hx => List.mem_cons.1 hx) (fun x hx => List.mem_cons_of_mem _ hx) (fun x hx => .inr hx) (fun x hx => hx) sa.2 h.sb (fun y hy => hy.elim (sa.1 y) (hlb y)) ?_
  have hvx : v ∈ xs := h.suba v (by simp)
  unfold Wt
  constructor
  · intro e; exact .inl ⟨hvx, hvy, e⟩
  · rintro (e | e | e)
    · exact e.2.2
    · exact absurd hvx e.1
    · exact absurd e.2.1 hvy
theorem Jn.two {v : Int} (h : Jn p0 p1 p2 xs ys a (v :: b) zs) (ha : ∀ y, a.head? = some y → v < y) : Jn p0 p1 p2 xs ys a b (if p1 then zs ++ [v] else zs) := by
  have sb := List.pairwise_cons.1 h.sb
  have hla : ∀ y ∈ a, v < y := by
    intro y hy
    cases a with
    | nil => cases hy
    | cons y0 a =>
      have q1 := ha y0 rfl
      rcases List.mem_cons.1 hy with rfl | hy
      · exact q1
      · have := (List.pairwise_cons.1 h.sa).1 y hy; omega
  have hvx : v ∉ xs := fun hv => by
    have hva : v ∉ a := fun e => by have := hla v e; omega
    have := h.old v v (.inl ⟨hv, hva⟩) (.inr (by simp)); omega
  refine h.step (.inr (by simp)) (fun x hx => .inr hx) (fun x hx => hx) (fun x hx => List.mem_cons.1 hx) (fun x hx => List.mem_cons_of_mem _ hx) h.sa sb.2 (fun y hy => hy.elim (hla y) (sb.1 y)) ?_
  have hvy : v ∈ ys := h.subb v (by simp)
  unfold Wt
  constructor
  · intro e; exact .inr (.inl ⟨hvx, hvy, e⟩)
  · rintro (e | e | e)
    · exact absurd e.1 hvx
    · exact e.2.2
    · exact absurd e.1 hvx
theorem Jn.both {v : Int} (h : Jn p0 p1 p2 xs ys (v :: a) (v :: b) zs) : Jn p0 p1 p2 xs ys a b (if p2 then zs ++ [v] else zs) := by
  have sa := List.pairwise_cons.1 h.sa
  have sb := List.pairwise_cons.1 h.sb
  refine h.step (.inl (by simp)) (fun x hx => List.mem_cons.1 hx) (fun x hx => List.mem_cons_of_mem _ hx) (fun x hx => List.mem_cons.1 hx) (fun x hx => List.mem_cons_of_mem _ hx) sa.2 sb.2 (fun y hy => hy.elim (sa.1 y) (sb.1 y)) ?_
  have hvx : v ∈ xs := h.suba v (by simp)
  have hvy : v ∈ ys := h.subb v (by simp)
  unfold Wt
  constructor
  · intro e; exact .inr (.inr ⟨hvx, hvy, e⟩)
  · rintro (e | e | e)
    · exact absurd hvy e.2.1
    · exact absurd hvx e.1
    · exact e.2.2
theorem Jn.done (h : Jn p0 p1 p2 xs ys [] [] zs) : zs.Pairwise (· < ·) ∧ ∀ x, x ∈ zs ↔ Wt p0 p1 p2 xs ys x := ⟨h.rise, fun x => by rw [h.mem x]; simp⟩
end
end Go.Proofs.YtkehehfphccpbaaGreatDoor.M
end
section
namespace Go.Proofs.YtkehehfphccpbaaGreatDoor.A
set_option maxRecDepth 40000
open Go.RowKit
/-- The head of a list that isn't empty. -/
theorem rh_head {w : World} {B : Nat} {A : Option Addr} {x : Int} {l : List Int} (h : Rh w B A (x :: l)) : ∃ b off, A = some ⟨b, off, none⟩ ∧ w.cell? ⟨b, off, none⟩ = some (.int .u16 x) := by
  obtain ⟨b, off, hA, _, hc⟩ := h.at (k := 0) (by simp)
  exact ⟨b, off, hA, by simpa using hc⟩
section
variable (w : World) (B n m c c' : Nat) (A A' : Option Addr) (x y : Int) (l l' : List Int)
set_option maxHeartbeats 4000000 in
theorem least_one (h : Rh w B A (x :: l)) (_hn : 0 < n) (_hn' : n ≤ 4000000) : Calls Tryz.prog 87 #[.slice A n c, .slice A' 0 c'] w fun e w' => e = .returned (.tuple #[.int .u16 x, .int .i64 0]) ∧ ∃ q, w' = w.drewN q := by
  obtain ⟨b, off, rfl, hc⟩ := rh_head h
  clear h
  go_enter Tryz.func87, Tryz.ntmps87
  go_wp2
  go_quiet (fail)
  go_wp2
  go_ret2
  exact ⟨rfl, nq, rfl⟩
set_option maxHeartbeats 4000000 in
theorem least_two (h : Rh w B A' (y :: l')) (hn : 0 < m) (hn' : m ≤ 4000000) : Calls Tryz.prog 87 #[.slice A 0 c, .slice A' m c'] w fun e w' => e = .returned (.tuple #[.int .u16 y, .int .i64 1]) ∧ ∃ q, w' = w.drewN q := by
  obtain ⟨b, off, rfl, hc⟩ := rh_head h
  have hm0 : ((m : Int) == 0) = false := by rw [beq_eq_false_iff_ne]; omega
  have hm1 : (m == 0) = false := by rw [beq_eq_false_iff_ne]; omega
  clear h
  go_enter Tryz.func87, Tryz.ntmps87
  go_wp2
  go_quiet (fail)
  go_wp2
  go_quiet (fail)
  go_wp2
  go_ret2
  exact ⟨rfl, _, rfl⟩
set_option maxHeartbeats 8000000 in
theorem least_any (h : Rh w B A (x :: l)) (h' : Rh w B A' (y :: l')) (hn : 0 < n) (hn' : n ≤ 4000000) (hm : 0 < m) (hm' : m ≤ 4000000) :
    Calls Tryz.prog 87 #[.slice A n c, .slice A' m c'] w fun e w' => e = .returned (.tuple #[.int .u16 (if x < y then x else if y < x then y else x), .int .i64 (if x < y then 0 else if y < x then 1 else 2)]) ∧ ∃ q, w' = w.drewN q := by
  obtain ⟨b, off, rfl, hc⟩ := rh_head h
  obtain ⟨b', off', rfl, hc'⟩ := rh_head h'
  have hm0 : ((m : Int) == 0) = false := by rw [beq_eq_false_iff_ne]; omega
  have hm1 : (m == 0) = false := by rw [beq_eq_false_iff_ne]; omega
  have hn0 : ((n : Int) == 0) = false := by rw [beq_eq_false_iff_ne]; omega
  have hn1 : (n == 0) = false := by rw [beq_eq_false_iff_ne]; omega
  clear h h'
  by_cases h1 : x < y
  · have hd : decide (x < y) = true := decide_eq_true h1
    rw [if_pos h1, if_pos h1]
    go_enter Tryz.func87, Tryz.ntmps87
    go_wp2
    go_quiet (fail)
    go_wp2
    go_ret2
    exact ⟨rfl, _, rfl⟩
  · rw [if_neg h1, if_neg h1]
    have hd : decide (x < y) = false := decide_eq_false h1
    by_cases h2 : y < x
    · have hd2 : decide (y < x) = true := decide_eq_true h2
      rw [if_pos h2, if_pos h2]
      go_enter Tryz.func87, Tryz.ntmps87
      go_wp2
      go_quiet (fail)
      go_wp2
      go_quiet (fail)
      go_wp2
      go_ret2
      exact ⟨rfl, _, rfl⟩
    · have hd2 : decide (y < x) = false := decide_eq_false h2
      rw [if_neg h2, if_neg h2]
      go_enter Tryz.func87, Tryz.ntmps87
      go_wp2
      go_quiet (fail)
      go_wp2
      go_quiet (fail)
      go_wp2
      go_ret2
      exact ⟨rfl, _, rfl⟩
end
end Go.Proofs.YtkehehfphccpbaaGreatDoor.A
end
section
namespace Go.Proofs.YtkehehfphccpbaaGreatDoor.A
set_option maxRecDepth 40000
open Go.RowKit
theorem cut_one (b off len c : Nat) (hk : 1 ≤ len) (hc : len ≤ c) : ∃ A3, (1 < len → A3 = some ⟨b, off + 1, none⟩) ∧
    (∀ w, (Instr.sliceAt 37 (.slice (some ⟨b, off, none⟩) len c) (some (.int .i64 1)) none none).run Tryz.prog w = .ok (.slice A3 (len - 1) (c - 1)) w) ∧
    (∀ w, (Instr.slice 37 (.slice (some ⟨b, off, none⟩) len c) (some (.int .i64 1)) none none).run Tryz.prog w = .ok (.slice A3 (len - 1) (c - 1)) w) := by
  have hu : Tryz.prog.underlying 37 = some (.slice (Tryz.prog.elem 37)) := by kernel_rfl
  have hz : ∀ w, (Go.sizeOf (Tryz.prog.elem 37)).run Tryz.prog w = .ok 1 w := fun w => Tryz.sizeOf35 w
  have h2 : ∀ w, (Instr.slice 37 (.slice (some ⟨b, off, none⟩) len c) (some (.int .i64 1)) none none).run Tryz.prog w = .ok (sliced (some ⟨b, off, none⟩) 1 len c 1) w := fun w => by
    have h := run_slice_l (P := Tryz.prog) (w := w) (t := 37) (a := some ⟨b, off, none⟩) (len := len) (cap := c) (ht := hu) (kl := .i64) (l := 1) (h0 := by omega) (h1 := by omega)
    rw [h, hz]
    simp [Result.andThen]
  refine ⟨if c = 1 then some ⟨b, off, none⟩ else (some (⟨b, off, none⟩ : Addr)).map (·.add (1 * 1)), fun h => ?_, fun w => ?_, fun w => (h2 w).trans rfl⟩
  · rw [if_neg (by omega)]
    rfl
  · exact (run_sliceAt_slice (w := w) (h := hu) ..).trans ((h2 w).trans rfl)
theorem rh_tail {w : World} {B b off n : Nat} {A3 : Option Addr} {x : Int} {l : List Int} (h : Rh w B (some ⟨b, off, none⟩) (x :: l)) (hn : n = (x :: l).length) (hA : 1 < n → A3 = some ⟨b, off + 1, none⟩) : Rh w B A3 l := by
  intro hne
  obtain ⟨b', off', e, hlt, hc⟩ := h (by simp)
  cases e
  have h1 : 1 < n := by rw [hn]; cases l with | nil => exact absurd rfl hne | cons _ _ => simp
  refine ⟨b, off + 1, hA h1, hlt, fun k hk => ?_⟩
  have := hc (k + 1) (by simpa using hk)
  rw [show off + 1 + k = off + (k + 1) by omega]
  simpa using this
def lenV : Value → Nat | .slice _ n _ => n | _ => 0
/-- What holds at each round. -/
structure JS (w : World) (B N : Nat) (p0 p1 p2 : Bool) (xs ys : List Int) (A1 : Option Addr) (n1 c1 : Nat) (A2 : Option Addr) (n2 c2 : Nat) (v : Value) (a b zs : List Int) (wr : World) : Prop where
  l1 : n1 = a.length
  l2 : n2 = b.length
  cap1 : n1 ≤ c1
  cap2 : n2 ≤ c2
  r1 : Rh w B A1 a
  r2 : Rh w B A2 b
  jn : M.Jn p0 p1 p2 xs ys a b zs
  own : wr.ownsRow w.heap.size 35 1 v zs.length (hv zs)
  bel : Below w.heap.size w wr
  few : zs.length + n1 + n2 ≤ N
end Go.Proofs.YtkehehfphccpbaaGreatDoor.A
end
section
namespace Go.Proofs.YtkehehfphccpbaaGreatDoor.A
set_option maxRecDepth 40000
open Go.RowKit
set_option maxHeartbeats 40000000 in
set_option maxRecDepth 100000 in
theorem join_xor (w : World) (B n1 c1 n2 c2 : Nat) (A1 A2 : Option Addr) (xs ys : List Int) (hB : B ≤ w.heap.size) (h1 : n1 = xs.length) (h2 : n2 = ys.length) (hc1 : n1 ≤ c1) (hc2 : n2 ≤ c2) (hr1 : Rh w B A1 xs) (hr2 : Rh w B A2 ys)
    (hs1 : xs.Pairwise (· < ·)) (hs2 : ys.Pairwise (· < ·)) (hn1 : n1 ≤ 1000000) (hn2 : n2 ≤ 1000000)
    (hf0 : ∀ W, Calls Tryz.prog 70 #[.int .i64 0] W fun e w' => e = .returned (.bool true) ∧ W = w')
    (hf1 : ∀ W, Calls Tryz.prog 70 #[.int .i64 1] W fun e w' => e = .returned (.bool true) ∧ W = w')
    (hf2 : ∀ W, Calls Tryz.prog 70 #[.int .i64 2] W fun e w' => e = .returned (.bool false) ∧ W = w') :
    Calls Tryz.prog 69 #[.slice A1 n1 c1, .slice A2 n2 c2, .func (.func 70) #[] #[]] w fun e w' => ∃ (v : Value) (zs : List Int), e = .returned v ∧ zs.Pairwise (· < ·) ∧ (∀ x, x ∈ zs ↔ M.Wt true true false xs ys x) ∧ zs.length ≤ n1 + n2 ∧
      w'.ownsRow w.heap.size 35 1 v zs.length (hv zs) ∧ Below w.heap.size w w' := by
  obtain ⟨i0, hi, hz0, hz1, hz2⟩ := info_parts u16_info
  have HI := Lib.hid hi
  have HZ0 := Lib.hid hz0
  have HZ1 := Lib.hid hz1
  have HZ2 := Lib.hid hz2
  have HFN0 := Lib.hid hf0
  have HFN1 := Lib.hid hf1
  have HFN2 := Lib.hid hf2
  obtain ⟨N, hN⟩ : ∃ N, N = n1 + n2 := ⟨_, rfl⟩
  have hNle : N ≤ 2000000 := by omega
  have H0 : Hid (JS w B N true true false xs ys A1 n1 c1 A2 n2 c2 (.slice none 0 0) xs ys [] w) := Lib.hid ⟨h1, h2, hc1, hc2, hr1, hr2, M.Jn.start hs1 hs2, ⟨rfl, .inl ⟨rfl, rfl⟩⟩, Below.refl _ _, by simp; omega⟩
  rw [← hN]
  have HB := Lib.hid hB
  clear hi hz0 hz1 hz2 hf0 hf1 hf2 h1 h2 hc1 hc2 hr1 hr2 hs1 hs2 hn1 hn2 hN hB
  go_enter Tryz.func69, Tryz.ntmps69
  go_wp2_with (fail)
  go_loopw [0, 1, 7] (fun v0 v1 v7 wr => ∃ (A1 : Option Addr) (n1 c1 : Nat) (A2 : Option Addr) (n2 c2 : Nat) (a b zs : List Int), v0 = .slice A1 n1 c1 ∧ v1 = .slice A2 n2 c2 ∧ Hid (JS w B N true true false xs ys A1 n1 c1 A2 n2 c2 v7 a b zs wr)) (fun v0 v1 _ _ => lenV v0 + lenV v1)
  case atStart => exact ⟨_, _, _, _, _, _, xs, ys, [], rfl, rfl, H0⟩
  case round =>
    obtain ⟨A1, n1, c1, A2, n2, c2, a, b, zs, rfl, rfl, H⟩ := hrel
    obtain ⟨v7, hv7⟩ : ∃ v7, v7 = u7 := ⟨_, rfl⟩
    subst hv7
    have hfew := H.out.few
    have hcp1 := H.out.cap1
    have hcp2 := H.out.cap2
    have OW0 : ∀ q, (wr.drewN q).ownsRow w.heap.size 35 1 v7 zs.length (hv zs) := fun _ => H.out.own
    have BE : ∀ q, Below w.heap.size w (wr.drewN q) := fun q => ⟨H.out.bel.os, H.out.bel.tape, H.out.bel.output, H.out.bel.size, H.out.bel.block⟩
    have HOW := Lib.hid OW0
    have HBE := Lib.hid BE
    clear OW0 BE
    cases a with
    | nil =>
      obtain rfl : n1 = 0 := by have := H.out.l1; simpa using this
      cases b with
      | nil =>
        obtain rfl : n2 = 0 := by have := H.out.l2; simpa using this
        go_wp2_with (fail)
        go_ret
        exact ⟨v7, zs, rfl, H.out.jn.done.1, H.out.jn.done.2, by have := H.out.few; omega, H.out.own, H.out.bel⟩
      | cons y b =>
        have hp2 : 1 ≤ n2 := by have := H.out.l2; rw [List.length_cons] at this; omega
        have hk2 := H.out.r2.below H.out.bel HB.out
        obtain ⟨b2, off2, hA2, _⟩ := H.out.r2 (by simp)
        subst hA2
        have K2 := Lib.hid hk2
        clear hk2
        obtain ⟨A2', hA2, hsA21, hsA22⟩ := cut_one b2 off2 n2 c2 (by omega) (by omega)
        obtain ⟨n2', hdn2⟩ : ∃ n2', n2 - 1 = n2' := ⟨_, rfl⟩
        obtain ⟨c2', hdc2⟩ : ∃ c2', c2 - 1 = c2' := ⟨_, rfl⟩
        rw [hdn2, hdc2] at hsA21 hsA22
        have HAA2 := Lib.hid hA2
        have HDn2 := Lib.hid hdn2
        have HDc2 := Lib.hid hdc2
        clear hA2 hdn2 hdc2
        go_wp2_with (first
          | (go_at_call 87; (with_reducible refine (least_two wr B n2 c1 c2 A1 (some ⟨b2, off2, none⟩) y b K2.out (by omega) (by omega)).mono ?_); rintro e w1 ⟨rfl, q1, rfl⟩)
          | (go_at_call 70; (with_reducible refine (HFN1.out _).mono ?_); rintro e w2 ⟨rfl, rfl⟩)
          | (at_builtin; refine wpList_append_own _ rfl _ _ 37 rfl w.heap.size 35 i0 (.int .u16 0) 1 2 Tryz.underlying37 HI.out HZ0.out HZ1.out HZ2.out rfl (by decide) _ _ _ rfl ((HOW.out q1).alloc _) ⟨wr.heap.size, 0, none⟩ 1 1 [.int .u16 y] rfl rfl (cell_oneB _ _ _) (one_intB _ _) (by unfold maxLen; have h0 := H.out.few; omega) (by have h0 := H.out.few; omega) (by have h0 := H.out.bel.size; simp; omega) ?_; intro v' w3 ow1 gr1 _; obtain ⟨ow2, be2⟩ := own_snocH (HBE.out q1) (HOW.out q1) ow1 gr1; replace ow2 := Lib.hid ow2; replace be2 := Lib.hid be2; clear ow1 gr1))
        go_roundw
        case rel => exact ⟨A1, 0, c1, A2', n2', c2', [], b, (zs ++ [y]), rfl, rfl, Lib.hid ⟨H.out.l1, (by have h1 := H.out.l2; have h2 := HDn2.out; rw [List.length_cons] at h1; omega), H.out.cap1, (by have h1 := HDn2.out; have h2 := HDc2.out; omega), H.out.r1, (rh_tail H.out.r2 H.out.l2 HAA2.out), (H.out.jn.two (fun z hz => by cases hz)), ow2.out, be2.out, (by have h0 := H.out.few; have hb := HDn2.out; rw [List.length_append, List.length_singleton]; omega)⟩⟩
        case measure => simp [lenV]; have hb := HDn2.out; omega
    | cons x a =>
      have hp1 : 1 ≤ n1 := by have := H.out.l1; rw [List.length_cons] at this; omega
      have hk1 := H.out.r1.below H.out.bel HB.out
      obtain ⟨b1, off1, hA1, _⟩ := H.out.r1 (by simp)
      subst hA1
      have K1 := Lib.hid hk1
      clear hk1
      cases b with
      | nil =>
        obtain rfl : n2 = 0 := by have := H.out.l2; simpa using this
        obtain ⟨A1', hA1, hsA11, hsA12⟩ := cut_one b1 off1 n1 c1 (by omega) (by omega)
        obtain ⟨n1', hdn1⟩ : ∃ n1', n1 - 1 = n1' := ⟨_, rfl⟩
        obtain ⟨c1', hdc1⟩ : ∃ c1', c1 - 1 = c1' := ⟨_, rfl⟩
        rw [hdn1, hdc1] at hsA11 hsA12
        have HAA1 := Lib.hid hA1
        have HDn1 := Lib.hid hdn1
        have HDc1 := Lib.hid hdc1
        clear hA1 hdn1 hdc1
        go_wp2_with (first
          | (go_at_call 87; (with_reducible refine (least_one wr B n1 c1 c2 (some ⟨b1, off1, none⟩) A2 x a K1.out (by omega) (by omega)).mono ?_); rintro e w1 ⟨rfl, q1, rfl⟩)
          | (go_at_call 70; (with_reducible refine (HFN0.out _).mono ?_); rintro e w2 ⟨rfl, rfl⟩)
          | (at_builtin; refine wpList_append_own _ rfl _ _ 37 rfl w.heap.size 35 i0 (.int .u16 0) 1 2 Tryz.underlying37 HI.out HZ0.out HZ1.out HZ2.out rfl (by decide) _ _ _ rfl ((HOW.out q1).alloc _) ⟨wr.heap.size, 0, none⟩ 1 1 [.int .u16 x] rfl rfl (cell_oneB _ _ _) (one_intB _ _) (by unfold maxLen; have h0 := H.out.few; omega) (by have h0 := H.out.few; omega) (by have h0 := H.out.bel.size; simp; omega) ?_; intro v' w3 ow1 gr1 _; obtain ⟨ow2, be2⟩ := own_snocH (HBE.out q1) (HOW.out q1) ow1 gr1; replace ow2 := Lib.hid ow2; replace be2 := Lib.hid be2; clear ow1 gr1))
        go_roundw
        case rel => exact ⟨A1', n1', c1', A2, 0, c2, a, [], (zs ++ [x]), rfl, rfl, Lib.hid ⟨(by have h1 := H.out.l1; have h2 := HDn1.out; rw [List.length_cons] at h1; omega), H.out.l2, (by have h1 := HDn1.out; have h2 := HDc1.out; omega), H.out.cap2, (rh_tail H.out.r1 H.out.l1 HAA1.out), H.out.r2, (H.out.jn.one (fun z hz => by cases hz)), ow2.out, be2.out, (by have h0 := H.out.few; have ha := HDn1.out; rw [List.length_append, List.length_singleton]; omega)⟩⟩
        case measure => simp [lenV]; have ha := HDn1.out; omega
      | cons y b =>
        have hp2 : 1 ≤ n2 := by have := H.out.l2; rw [List.length_cons] at this; omega
        have hk2 := H.out.r2.below H.out.bel HB.out
        obtain ⟨b2, off2, hA2, _⟩ := H.out.r2 (by simp)
        subst hA2
        have K2 := Lib.hid hk2
        clear hk2
        rcases Int.lt_trichotomy x y with hxy | hxy | hyx
        · have hx1 : x < y := hxy
          obtain ⟨A1', hA1, hsA11, hsA12⟩ := cut_one b1 off1 n1 c1 (by omega) (by omega)
          obtain ⟨n1', hdn1⟩ : ∃ n1', n1 - 1 = n1' := ⟨_, rfl⟩
          obtain ⟨c1', hdc1⟩ : ∃ c1', c1 - 1 = c1' := ⟨_, rfl⟩
          rw [hdn1, hdc1] at hsA11 hsA12
          have HAA1 := Lib.hid hA1
          have HDn1 := Lib.hid hdn1
          have HDc1 := Lib.hid hdc1
          clear hA1 hdn1 hdc1
          go_wp2_with (first
            | (go_at_call 87; (with_reducible refine (least_any wr B n1 n2 c1 c2 (some ⟨b1, off1, none⟩) (some ⟨b2, off2, none⟩) x y a b K1.out K2.out (by omega) (by omega) (by omega) (by omega)).mono ?_); rintro e w1 ⟨rfl, q1, rfl⟩)
            | (go_at_call 70; (with_reducible refine (HFN0.out _).mono ?_); rintro e w2 ⟨rfl, rfl⟩)
            | (at_builtin; refine wpList_append_own _ rfl _ _ 37 rfl w.heap.size 35 i0 (.int .u16 0) 1 2 Tryz.underlying37 HI.out HZ0.out HZ1.out HZ2.out rfl (by decide) _ _ _ rfl ((HOW.out q1).alloc _) ⟨wr.heap.size, 0, none⟩ 1 1 [.int .u16 x] rfl rfl (cell_oneB _ _ _) (one_intB _ _) (by unfold maxLen; have h0 := H.out.few; omega) (by have h0 := H.out.few; omega) (by have h0 := H.out.bel.size; simp; omega) ?_; intro v' w3 ow1 gr1 _; obtain ⟨ow2, be2⟩ := own_snocH (HBE.out q1) (HOW.out q1) ow1 gr1; replace ow2 := Lib.hid ow2; replace be2 := Lib.hid be2; clear ow1 gr1))
          go_roundw
          case rel => exact ⟨A1', n1', c1', (some ⟨b2, off2, none⟩), n2, c2, a, (y :: b), (zs ++ [x]), rfl, rfl, Lib.hid ⟨(by have h1 := H.out.l1; have h2 := HDn1.out; rw [List.length_cons] at h1; omega), H.out.l2, (by have h1 := HDn1.out; have h2 := HDc1.out; omega), H.out.cap2, (rh_tail H.out.r1 H.out.l1 HAA1.out), H.out.r2, (H.out.jn.one (fun z hz => by cases hz; exact hxy)), ow2.out, be2.out, (by have h0 := H.out.few; have ha := HDn1.out; rw [List.length_append, List.length_singleton]; omega)⟩⟩
          case measure => simp [lenV]; have ha := HDn1.out; omega
        · subst hxy
          obtain ⟨A1', hA1, hsA11, hsA12⟩ := cut_one b1 off1 n1 c1 (by omega) (by omega)
          obtain ⟨n1', hdn1⟩ : ∃ n1', n1 - 1 = n1' := ⟨_, rfl⟩
          obtain ⟨c1', hdc1⟩ : ∃ c1', c1 - 1 = c1' := ⟨_, rfl⟩
          rw [hdn1, hdc1] at hsA11 hsA12
          have HAA1 := Lib.hid hA1
          have HDn1 := Lib.hid hdn1
          have HDc1 := Lib.hid hdc1
          clear hA1 hdn1 hdc1
          obtain ⟨A2', hA2, hsA21, hsA22⟩ := cut_one b2 off2 n2 c2 (by omega) (by omega)
          obtain ⟨n2', hdn2⟩ : ∃ n2', n2 - 1 = n2' := ⟨_, rfl⟩
          obtain ⟨c2', hdc2⟩ : ∃ c2', c2 - 1 = c2' := ⟨_, rfl⟩
          rw [hdn2, hdc2] at hsA21 hsA22
          have HAA2 := Lib.hid hA2
          have HDn2 := Lib.hid hdn2
          have HDc2 := Lib.hid hdc2
          clear hA2 hdn2 hdc2
          go_wp2_with (first
            | (go_at_call 87; (with_reducible refine (least_any wr B n1 n2 c1 c2 (some ⟨b1, off1, none⟩) (some ⟨b2, off2, none⟩) x x a b K1.out K2.out (by omega) (by omega) (by omega) (by omega)).mono ?_); rintro e w1 ⟨rfl, q1, rfl⟩)
            | (go_at_call 70; (with_reducible refine (HFN2.out _).mono ?_); rintro e w2 ⟨rfl, rfl⟩))
          go_roundw
          case rel => exact ⟨A1', n1', c1', A2', n2', c2', a, b, zs, rfl, rfl, Lib.hid ⟨(by have h1 := H.out.l1; have h2 := HDn1.out; rw [List.length_cons] at h1; omega), (by have h1 := H.out.l2; have h2 := HDn2.out; rw [List.length_cons] at h1; omega), (by have h1 := HDn1.out; have h2 := HDc1.out; omega), (by have h1 := HDn2.out; have h2 := HDc2.out; omega), (rh_tail H.out.r1 H.out.l1 HAA1.out), (rh_tail H.out.r2 H.out.l2 HAA2.out), H.out.jn.both, (HOW.out q1), (HBE.out q1), (by have h0 := H.out.few; have ha := HDn1.out; have hb := HDn2.out; omega)⟩⟩
          case measure => simp [lenV]; have ha := HDn1.out; have hb := HDn2.out; omega
        · have hy1 : ¬ x < y := by omega
          obtain ⟨A2', hA2, hsA21, hsA22⟩ := cut_one b2 off2 n2 c2 (by omega) (by omega)
          obtain ⟨n2', hdn2⟩ : ∃ n2', n2 - 1 = n2' := ⟨_, rfl⟩
          obtain ⟨c2', hdc2⟩ : ∃ c2', c2 - 1 = c2' := ⟨_, rfl⟩
          rw [hdn2, hdc2] at hsA21 hsA22
          have HAA2 := Lib.hid hA2
          have HDn2 := Lib.hid hdn2
          have HDc2 := Lib.hid hdc2
          clear hA2 hdn2 hdc2
          go_wp2_with (first
            | (go_at_call 87; (with_reducible refine (least_any wr B n1 n2 c1 c2 (some ⟨b1, off1, none⟩) (some ⟨b2, off2, none⟩) x y a b K1.out K2.out (by omega) (by omega) (by omega) (by omega)).mono ?_); rintro e w1 ⟨rfl, q1, rfl⟩)
            | (go_at_call 70; (with_reducible refine (HFN1.out _).mono ?_); rintro e w2 ⟨rfl, rfl⟩)
            | (at_builtin; refine wpList_append_own _ rfl _ _ 37 rfl w.heap.size 35 i0 (.int .u16 0) 1 2 Tryz.underlying37 HI.out HZ0.out HZ1.out HZ2.out rfl (by decide) _ _ _ rfl ((HOW.out q1).alloc _) ⟨wr.heap.size, 0, none⟩ 1 1 [.int .u16 y] rfl rfl (cell_oneB _ _ _) (one_intB _ _) (by unfold maxLen; have h0 := H.out.few; omega) (by have h0 := H.out.few; omega) (by have h0 := H.out.bel.size; simp; omega) ?_; intro v' w3 ow1 gr1 _; obtain ⟨ow2, be2⟩ := own_snocH (HBE.out q1) (HOW.out q1) ow1 gr1; replace ow2 := Lib.hid ow2; replace be2 := Lib.hid be2; clear ow1 gr1))
          go_roundw
          case rel => exact ⟨(some ⟨b1, off1, none⟩), n1, c1, A2', n2', c2', (x :: a), b, (zs ++ [y]), rfl, rfl, Lib.hid ⟨H.out.l1, (by have h1 := H.out.l2; have h2 := HDn2.out; rw [List.length_cons] at h1; omega), H.out.cap1, (by have h1 := HDn2.out; have h2 := HDc2.out; omega), H.out.r1, (rh_tail H.out.r2 H.out.l2 HAA2.out), (H.out.jn.two (fun z hz => by cases hz; exact hyx)), ow2.out, be2.out, (by have h0 := H.out.few; have hb := HDn2.out; rw [List.length_append, List.length_singleton]; omega)⟩⟩
          case measure => simp [lenV]; have hb := HDn2.out; omega
set_option maxHeartbeats 1000000 in
theorem fn_a_xor0 (w : World) : Calls Tryz.prog 70 #[.int .i64 0] w fun e w' => e = .returned (.bool true) ∧ w = w' := by
  go_enter Tryz.func70, Tryz.ntmps70
  go_wp2
  go_ret
  exact ⟨by first | rfl | simp, rfl⟩
set_option maxHeartbeats 1000000 in
theorem fn_a_xor1 (w : World) : Calls Tryz.prog 70 #[.int .i64 1] w fun e w' => e = .returned (.bool true) ∧ w = w' := by
  go_enter Tryz.func70, Tryz.ntmps70
  go_wp2
  go_ret
  exact ⟨by first | rfl | simp, rfl⟩
set_option maxHeartbeats 1000000 in
theorem fn_a_xor2 (w : World) : Calls Tryz.prog 70 #[.int .i64 2] w fun e w' => e = .returned (.bool false) ∧ w = w' := by
  go_enter Tryz.func70, Tryz.ntmps70
  go_wp2
  go_ret
  exact ⟨by first | rfl | simp, rfl⟩
set_option maxHeartbeats 4000000 in
theorem a_xor (w : World) (B n1 c1 n2 c2 : Nat) (A1 A2 : Option Addr) (xs ys : List Int) (hB : B ≤ w.heap.size) (h1 : n1 = xs.length) (h2 : n2 = ys.length) (hc1 : n1 ≤ c1) (hc2 : n2 ≤ c2) (hr1 : Rh w B A1 xs) (hr2 : Rh w B A2 ys)
    (hs1 : xs.Pairwise (· < ·)) (hs2 : ys.Pairwise (· < ·)) (hn1 : n1 ≤ 1000000) (hn2 : n2 ≤ 1000000) :
    Calls Tryz.prog 41 #[.slice A1 n1 c1, .slice A2 n2 c2] w fun e w' => ∃ (v : Value) (zs : List Int), e = .returned v ∧ zs.Pairwise (· < ·) ∧ (∀ x, x ∈ zs ↔ M.Wt true true false xs ys x) ∧ zs.length ≤ n1 + n2 ∧
      w'.ownsRow w.heap.size 35 1 v zs.length (hv zs) ∧ Below w.heap.size w w' := by
  have H := Lib.hid (join_xor w B n1 c1 n2 c2 A1 A2 xs ys hB h1 h2 hc1 hc2 hr1 hr2 hs1 hs2 hn1 hn2 fn_a_xor0 fn_a_xor1 fn_a_xor2)
  clear hB h1 h2 hc1 hc2 hr1 hr2 hs1 hs2 hn1 hn2
  go_enter Tryz.func41, Tryz.ntmps41
  go_wp2_with (go_at_call 69; (with_reducible refine H.out.mono ?_); rintro e w1 ⟨v, zs, rfl, g1, g2, g3, g4, g5⟩; replace g1 := Lib.hid g1; replace g2 := Lib.hid g2; replace g3 := Lib.hid g3; replace g4 := Lib.hid g4; replace g5 := Lib.hid g5)
  go_ret
  exact ⟨v, zs, rfl, g1.out, g2.out, g3.out, g4.out, g5.out⟩
end Go.Proofs.YtkehehfphccpbaaGreatDoor.A
end
