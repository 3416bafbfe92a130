/- What the calls of a meter do to its five numbers in memory: contracts of each, the text walked. -/
import Derived.Test.YtjigfneckohboaaProg
import Derived.Test.YtjigfneckohboaaCMath
import Derived.WalkKit
import Derived.OwnWalk
import Derived.Laws.OwnMore
import Derived.Below
import Derived.LoopTactic
import Derived.RegionTactic
import Derived.ChangeAlike
import Derived.Outline
import Derived.Lib.Hide
import Derived.Deep.Draws
import Derived.Laws.Rows
namespace Go.Proofs.Ytjigfneckohboaa
open Go.RowKit

theorem ret_int {k : IntKind} {a b : Int} (h : a = b) : Ending.returned (.int k a) = .returned (.int k b) := by rw [h]
theorem ret_bool {a b : Bool} (h : a = b) : Ending.returned (.bool a) = .returned (.bool b) := by rw [h]

/-- Block g is a meter's five numbers. -/
def Mt (w : World) (g r c s t p : Nat) : Prop := w.heap[g]? = some (.cells #[.int .i64 (r : Int), .int .i64 (c : Int), .int .i64 (s : Int), .int .i64 (t : Int), .int .i64 (p : Int)] 37 (0, 0))
section
variable {w w' : World} {g r c s t p : Nat}
theorem Mt.lt (h : Mt w g r c s t p) : g < w.heap.size := by
  rcases Nat.lt_or_ge g w.heap.size with hlt | hge
  · exact hlt
  · unfold Mt at h; rw [Array.getElem?_eq_none hge] at h; cases h
theorem Mt.cell (h : Mt w g r c s t p) (i : Nat) : w.cell? ⟨g, i, none⟩ = (#[.int .i64 (r : Int), .int .i64 (c : Int), .int .i64 (s : Int), .int .i64 (t : Int), .int .i64 (p : Int)] : Array Value)[i]? := cell_of_row w g i _ 37 (0, 0) h
theorem Mt.c0 (h : Mt w g r c s t p) : w.cell? ⟨g, 0, none⟩ = some (.int .i64 r) := h.cell 0
theorem Mt.c1 (h : Mt w g r c s t p) : w.cell? ⟨g, 1, none⟩ = some (.int .i64 c) := h.cell 1
theorem Mt.c2 (h : Mt w g r c s t p) : w.cell? ⟨g, 2, none⟩ = some (.int .i64 s) := h.cell 2
theorem Mt.c3 (h : Mt w g r c s t p) : w.cell? ⟨g, 3, none⟩ = some (.int .i64 t) := h.cell 3
theorem Mt.c4 (h : Mt w g r c s t p) : w.cell? ⟨g, 4, none⟩ = some (.int .i64 p) := h.cell 4
theorem Mt.frozen (h : Mt w g r c s t p) (i : Nat) : w.frozen? ⟨g, i, none⟩ = false := by
  unfold Mt at h
  simp [World.frozen?, h]
theorem Mt.below {B : Nat} (h : Mt w g r c s t p) (hb : Below B w w') (hg : g < B) : Mt w' g r c s t p := (hb.block g hg).trans h
theorem Mt.grown {row : Option Nat} (h : Mt w g r c s t p) (hb : w.grownBy w' row) (hg : some g ≠ row) : Mt w' g r c s t p := (hb.block g h.lt hg).trans h
theorem set_heap {cs : Array Value} {T : TypeId} (h : w.heap[g]? = some (.cells cs T (0, 0))) (i : Nat) (u : Value) : (w.setCell ⟨g, i, none⟩ u).heap[g]? = some (.cells (cs.setIfInBounds i u) T (0, 0)) := by
  simp [World.setCell, Array.getElem?_modify, h]
end
theorem grown_set (w : World) (g i : Nat) (u : Value) : w.grownBy (w.setCell ⟨g, i, none⟩ u) (some g) :=
  ⟨rfl, rfl, rfl, by simp [World.setCell], fun j _ hne => Below.heap_setCell w _ u j (fun e => hne (by rw [e]))⟩

theorem set_mt {w : World} {g r c s t p : Nat} (h : Mt w g r c s t p) (i : Nat) (u : Value) {r' c' s' t' p' : Nat}
    (e : (#[.int .i64 (r : Int), .int .i64 (c : Int), .int .i64 (s : Int), .int .i64 (t : Int), .int .i64 (p : Int)] : Array Value).setIfInBounds i u = #[.int .i64 (r' : Int), .int .i64 (c' : Int), .int .i64 (s' : Int), .int .i64 (t' : Int), .int .i64 (p' : Int)]) :
    Mt (w.setCell ⟨g, i, none⟩ u) g r' c' s' t' p' := by
  have := set_heap h i u
  rw [e] at this
  exact this
theorem grown_trans2 {a b c : World} {g : Nat} (h : a.grownBy b (some g)) (k : b.grownBy c (some g)) : a.grownBy c (some g) :=
  ⟨k.os.trans h.os, k.tape.trans h.tape, k.output.trans h.output, Nat.le_trans h.size k.size, fun j hj hne => (k.block j (Nat.lt_of_lt_of_le hj h.size) hne).trans (h.block j hj hne)⟩

theorem m_start (w : World) (g r c s t p : Nat) (h : Mt w g r c s t p) (hs : s < 1000000) :
    Calls Try.prog 17 #[.pointer (some ⟨g, 0, none⟩)] w fun e w' => e = .returned (.tuple #[]) ∧ Mt w' g r c (s + 1) 0 p ∧ w.grownBy w' (some g) := by
  have hc := h.c2
  have hc3 := h.c3
  have hf := h.frozen 2
  have hf3 := h.frozen 3
  have H := Lib.hid h
  clear h
  go_enter Try.func17, Try.ntmps17
  go_wp2
  go_end0
  exact ⟨rfl, set_mt (set_mt H.out 2 _ (s' := s + 1) rfl) 3 _ (t' := 0) rfl, grown_trans2 (grown_set _ _ _ _) (grown_set _ _ _ _)⟩
theorem m_start_nil (w : World) :
    Calls Try.prog 17 #[.pointer none] w fun e w' => e = .returned (.tuple #[]) ∧ w = w' := by
  go_enter Try.func17, Try.ntmps17
  go_wp2
  refine bodyPost_ret (results_none rfl _ _ _) rfl ?_
  exact ⟨rfl, rfl⟩
theorem m_read_nil (w : World) :
    Calls Try.prog 18 #[.pointer none] w fun e w' => e = .returned (.tuple #[]) ∧ w = w' := by
  go_enter Try.func18, Try.ntmps18
  go_wp2
  refine bodyPost_ret (results_none rfl _ _ _) rfl ?_
  exact ⟨rfl, rfl⟩
theorem m_call_nil (w : World) :
    Calls Try.prog 19 #[.pointer none] w fun e w' => e = .returned (.tuple #[]) ∧ w = w' := by
  go_enter Try.func19, Try.ntmps19
  go_wp2
  refine bodyPost_ret (results_none rfl _ _ _) rfl ?_
  exact ⟨rfl, rfl⟩
theorem mt_drew {w : World} {g r c s t p : Nat} (h : Mt w g r c s t p) : Mt w.drew g r c s t p := h
theorem grown_drew {a b : World} {row : Option Nat} (h : a.grownBy b row) : a.grownBy b.drew row := ⟨h.os, h.tape, h.output, h.size, h.block⟩
theorem m_step (w : World) (g r c s t p : Nat) (h : Mt w g r c s t p) (ht : t < 1000000) :
    Calls Try.prog 23 #[.pointer (some ⟨g, 0, none⟩)] w fun e w' => e = .returned (.tuple #[]) ∧ Mt w' g r c s (t + 1) (max p (t + 1)) ∧ w.grownBy w' (some g) := by
  have hc := h.c3
  have hf := h.frozen 3
  have h2 : Mt (w.setCell ⟨g, 3, none⟩ (.int .i64 ((t : Int) + 1))) g r c s (t + 1) p := set_mt h 3 _ rfl
  have k3 : (w.setCell ⟨g, 3, none⟩ (.int .i64 ((t : Int) + 1))).cell? ⟨g, 3, none⟩ = some (.int .i64 ((t : Int) + 1)) := h2.c3
  have k4 := h2.c4
  have f4 := h2.frozen 4
  have H := Lib.hid h2
  have G := Lib.hid (grown_set w g 3 (.int .i64 ((t : Int) + 1)))
  clear h h2
  go_enter Try.func23, Try.ntmps23
  go_wp2
  go_region
  go_end0
  have e : (if (p : Int) < (t : Int) + 1 then (t : Int) + 1 else (p : Int)) = ((max p (t + 1) : Nat) : Int) := by split <;> omega
  rw [e]
  exact ⟨rfl, mt_drew (set_mt H.out 4 _ (p' := max p (t + 1)) rfl), grown_drew (grown_trans2 G.out (grown_set _ _ _ _))⟩

theorem m_read (w : World) (g r c s t p : Nat) (h : Mt w g r c s t p) (hr : r < 1000000) (ht : t < 1000000) :
    Calls Try.prog 18 #[.pointer (some ⟨g, 0, none⟩)] w fun e w' => e = .returned (.tuple #[]) ∧ Mt w' g (r + 1) c s (t + 1) (max p (t + 1)) ∧ w.grownBy w' (some g) := by
  have hc := h.c0
  have hf := h.frozen 0
  have h2 : Mt (w.setCell ⟨g, 0, none⟩ (.int .i64 ((r : Int) + 1))) g (r + 1) c s t p := set_mt h 0 _ rfl
  have H := Lib.hid h2
  have G := Lib.hid (grown_set w g 0 (.int .i64 ((r : Int) + 1)))
  clear h h2
  go_enter Try.func18, Try.ntmps18
  go_wp2_with (go_at_call 23; refine (m_step _ g (r + 1) c s t p H.out ht).mono ?_; rintro e w1 ⟨rfl, hm, hg⟩)
  go_end0
  exact ⟨rfl, hm, grown_trans2 G.out hg⟩
theorem m_call (w : World) (g r c s t p : Nat) (h : Mt w g r c s t p) (hr : c < 1000000) (ht : t < 1000000) :
    Calls Try.prog 19 #[.pointer (some ⟨g, 0, none⟩)] w fun e w' => e = .returned (.tuple #[]) ∧ Mt w' g r (c + 1) s (t + 1) (max p (t + 1)) ∧ w.grownBy w' (some g) := by
  have hc := h.c1
  have hf := h.frozen 1
  have h2 : Mt (w.setCell ⟨g, 1, none⟩ (.int .i64 ((c : Int) + 1))) g r (c + 1) s t p := set_mt h 1 _ rfl
  have H := Lib.hid h2
  have G := Lib.hid (grown_set w g 1 (.int .i64 ((c : Int) + 1)))
  clear h h2
  go_enter Try.func19, Try.ntmps19
  go_wp2_with (go_at_call 23; refine (m_step _ g r (c + 1) s t p H.out ht).mono ?_; rintro e w1 ⟨rfl, hm, hg⟩)
  go_end0
  exact ⟨rfl, hm, grown_trans2 G.out hg⟩
theorem m_taken (w : World) (g r c s t p : Nat) (h : Mt w g r c s t p) :
    Calls Try.prog 9 #[.pointer (some ⟨g, 0, none⟩)] w fun e w' => e = .returned (.int .i64 (t : Nat)) ∧ w = w' := by
  have hc := h.c3
  clear h
  go_enter Try.func9, Try.ntmps9
  go_wp2
  go_ret
  exact ⟨rfl, rfl⟩
theorem m_taken_nil (w : World) :
    Calls Try.prog 9 #[.pointer none] w fun e w' => e = .returned (.int .i64 0) ∧ w = w' := by
  go_enter Try.func9, Try.ntmps9
  go_wp2
  go_ret
  exact ⟨rfl, rfl⟩
theorem m_reads (w : World) (g r c s t p : Nat) (h : Mt w g r c s t p) :
    Calls Try.prog 13 #[.pointer (some ⟨g, 0, none⟩)] w fun e w' => e = .returned (.int .i64 (r : Nat)) ∧ w = w' := by
  have hc := h.c0
  clear h
  go_enter Try.func13, Try.ntmps13
  go_wp2
  go_ret
  exact ⟨rfl, rfl⟩
theorem m_reads_nil (w : World) :
    Calls Try.prog 13 #[.pointer none] w fun e w' => e = .returned (.int .i64 0) ∧ w = w' := by
  go_enter Try.func13, Try.ntmps13
  go_wp2
  go_ret
  exact ⟨rfl, rfl⟩
theorem m_calls (w : World) (g r c s t p : Nat) (h : Mt w g r c s t p) :
    Calls Try.prog 14 #[.pointer (some ⟨g, 0, none⟩)] w fun e w' => e = .returned (.int .i64 (c : Nat)) ∧ w = w' := by
  have hc := h.c1
  clear h
  go_enter Try.func14, Try.ntmps14
  go_wp2
  go_ret
  exact ⟨rfl, rfl⟩
theorem m_calls_nil (w : World) :
    Calls Try.prog 14 #[.pointer none] w fun e w' => e = .returned (.int .i64 0) ∧ w = w' := by
  go_enter Try.func14, Try.ntmps14
  go_wp2
  go_ret
  exact ⟨rfl, rfl⟩
theorem m_peak (w : World) (g r c s t p : Nat) (h : Mt w g r c s t p) :
    Calls Try.prog 15 #[.pointer (some ⟨g, 0, none⟩)] w fun e w' => e = .returned (.int .i64 (p : Nat)) ∧ w = w' := by
  have hc := h.c4
  clear h
  go_enter Try.func15, Try.ntmps15
  go_wp2
  go_ret
  exact ⟨rfl, rfl⟩
theorem m_peak_nil (w : World) :
    Calls Try.prog 15 #[.pointer none] w fun e w' => e = .returned (.int .i64 0) ∧ w = w' := by
  go_enter Try.func15, Try.ntmps15
  go_wp2
  go_ret
  exact ⟨rfl, rfl⟩
theorem m_starts (w : World) (g r c s t p : Nat) (h : Mt w g r c s t p) :
    Calls Try.prog 11 #[.pointer (some ⟨g, 0, none⟩)] w fun e w' => e = .returned (.int .i64 (s : Nat)) ∧ w = w' := by
  have hc := h.c2
  clear h
  go_enter Try.func11, Try.ntmps11
  go_wp2
  go_ret
  exact ⟨rfl, rfl⟩
theorem m_starts_nil (w : World) :
    Calls Try.prog 11 #[.pointer none] w fun e w' => e = .returned (.int .i64 0) ∧ w = w' := by
  go_enter Try.func11, Try.ntmps11
  go_wp2
  go_ret
  exact ⟨rfl, rfl⟩

theorem new_mt (w : World) : Mt (w.alloc (.cells #[.int .i64 0, .int .i64 0, .int .i64 0, .int .i64 0, .int .i64 0] 37)) w.heap.size 0 0 0 0 0 := heap_alloc_new w _
theorem m_new (w : World) :
    Calls Try.prog 22 #[] w fun e w' => e = .returned (.pointer (some ⟨w.heap.size, 0, none⟩)) ∧ Mt w' w.heap.size 0 0 0 0 0 ∧ Below w.heap.size w w' := by
  go_enter Try.func22, Try.ntmps22
  go_wp2
  go_ret
  exact ⟨rfl, new_mt w, (Below.refl _ w).alloc (Nat.le_refl _) _⟩

/-- The slice at A reads as these bytes, in cells below block B. -/
def Rb (w : World) (B : Nat) (A : Option Addr) (xs : List Nat) : Prop :=
  xs ≠ [] → ∃ b off, A = some ⟨b, off, none⟩ ∧ b < B ∧ ∀ (k : Nat) (h : k < xs.length), w.cell? ⟨b, off + k, none⟩ = some (.int .u8 (xs[k] : Nat))
theorem Rb.below {w w' : World} {B B' : Nat} {A : Option Addr} {xs : List Nat} (h : Rb w B A xs) (hb : Below B' w w') (hB : B ≤ B') : Rb w' B A xs := fun hne => by
  obtain ⟨b, off, rfl, hlt, hc⟩ := h hne
  exact ⟨b, off, rfl, hlt, fun k hk => (hb.cell (p := ⟨b, off + k, none⟩) (by show b < B'; omega)).trans (hc k hk)⟩
theorem Rb.more {w : World} {B B' : Nat} {A : Option Addr} {xs : List Nat} (h : Rb w B A xs) (hB : B ≤ B') : Rb w B' A xs := fun hne => by
  obtain ⟨b, off, rfl, hlt, hc⟩ := h hne
  exact ⟨b, off, rfl, by omega, hc⟩
theorem Rb.at {w : World} {B : Nat} {A : Option Addr} {xs : List Nat} (h : Rb w B A xs) {k : Nat} (hk : k < xs.length) : ∃ b off, A = some ⟨b, off, none⟩ ∧ b < B ∧ w.cell? ⟨b, off + k, none⟩ = some (.int .u8 (xs[k] : Nat)) := by
  obtain ⟨b, off, rfl, hb, hc⟩ := h (by intro e; subst e; simp at hk)
  exact ⟨b, off, rfl, hb, hc k hk⟩
theorem Rb.take {w : World} {B : Nat} {A : Option Addr} {xs : List Nat} (h : Rb w B A xs) (n : Nat) : Rb w B A (xs.take n) := fun hne => by
  obtain ⟨b, off, rfl, hb, hc⟩ := h (by rintro rfl; simp at hne)
  refine ⟨b, off, rfl, hb, fun k hk => ?_⟩
  rw [List.length_take] at hk
  rw [hc k (by omega)]; simp
theorem add_off (g k : Nat) : (⟨g, 0, none⟩ : Addr).add k = ⟨g, k, none⟩ := by
  by_cases h : k = 0
  · subst h; rfl
  · simp [Addr.add, h]
theorem Rb.of_own {w : World} {base : Nat} {v : Value} {xs : List Nat} (h : w.ownsRow base 5 1 v xs.length (xs.map fun a : Nat => Value.int .u8 (a : Int))) : ∃ A c, v = .slice A xs.length c ∧ Rb w w.heap.size A xs := by
  rcases h.2 with ⟨rfl, hn⟩ | ⟨g, cap, cur, rfl, hb, hh, _⟩
  · have : xs = [] := by simpa using hn
    subst this
    exact ⟨none, 0, rfl, fun h => absurd rfl h⟩
  · refine ⟨_, _, rfl, fun hne => ⟨g, 0, rfl, ?_, fun k hk => ?_⟩⟩
    · exact (h.lt g rfl).2
    · have := h.cells (g := g) rfl k (.int .u8 (xs[k] : Nat)) (by simp [hk])
      rw [add_off] at this
      rw [Nat.zero_add]
      exact this
theorem take_snoc {xs : List Nat} {k : Nat} (h : k < xs.length) : xs.take (k + 1) = xs.take k ++ [xs[k]] := by
  rw [List.take_succ_eq_append_getElem h]
theorem take_all {xs : List Nat} {k : Nat} (h : ¬ k < xs.length) : xs.take k = xs := List.take_of_length_le (by omega)
theorem mod3 (a : Nat) : ((a : Int) % 3) = ((a % 3 : Nat) : Int) := by omega

set_option maxHeartbeats 1000000 in
theorem ref_taken (A : Option Addr) (cp : Nat) (xs : List Nat) (w : World) (B : Nat) (hr : Rb w B A xs) (hl : xs.length ≤ 1000000) :
    Calls Try.prog 10 #[.slice A xs.length cp] w fun e w' => e = .returned (.int .i64 (M.taken xs : Nat)) ∧ w = w' := by
  go_enter Try.func10, Try.ntmps10
  go_wp2
  go_loop [3, 8] (fun m i => ∃ k : Nat, k ≤ xs.length ∧ i = .int .i64 k ∧ m = .int .i64 (M.taken (xs.take k) : Nat)) (fun _ i => xs.length - (intOf i).toNat)
  case atStart => exact ⟨0, by omega, rfl, rfl⟩
  case round =>
    obtain ⟨k, hk, rfl, rfl⟩ := hrel
    by_cases hlt : k < xs.length
    · obtain ⟨b, off, rfl, _, hc⟩ := hr.at hlt
      have hs := Lib.hid (show M.taken (xs.take (k + 1)) = if xs[k] % 3 = 0 then 0 else M.taken (xs.take k) + 1 by rw [take_snoc hlt, M.taken_snoc])
      have hle := M.taken_le (xs.take k)
      rw [List.length_take] at hle
      generalize M.taken (xs.take k) = m at *
      generalize xs[k] = y at *
      by_cases hy : y % 3 = 0
      · have hs2 : Hid (M.taken (xs.take (k + 1)) = 0) := by show M.taken _ = 0; rw [hs.out, if_pos hy]
        clear hs
        go_wp2
        go_round
        case rel => exact ⟨k + 1, by omega, by go_num, by rw [hs2.out]; rfl⟩
        case measure => simp [intOf]; omega
      · have hs2 : Hid (M.taken (xs.take (k + 1)) = m + 1) := by show M.taken _ = m + 1; rw [hs.out, if_neg hy]
        clear hs
        go_wp2
        go_round
        case rel => exact ⟨k + 1, by omega, by go_num, by rw [hs2.out]; go_num⟩
        case measure => simp [intOf]; omega
    · rw [take_all hlt]
      go_wp2
      go_ret
      exact ⟨rfl, rfl⟩

set_option maxHeartbeats 1000000 in
theorem ref_count (A : Option Addr) (cp : Nat) (xs : List Nat) (n : Nat) (w : World) (B : Nat) (hr : Rb w B A xs) (hl : xs.length ≤ 1000000) :
    Calls Try.prog 12 #[.slice A xs.length cp, .int .u8 (n : Int)] w fun e w' => e = .returned (.int .i64 (M.cnt xs n : Nat)) ∧ w = w' := by
  go_enter Try.func12, Try.ntmps12
  go_wp2
  go_loop [5, 10] (fun m i => ∃ k : Nat, k ≤ xs.length ∧ i = .int .i64 k ∧ m = .int .i64 (M.cnt (xs.take k) n : Nat)) (fun _ i => xs.length - (intOf i).toNat)
  case atStart => exact ⟨0, by omega, rfl, rfl⟩
  case round =>
    obtain ⟨k, hk, rfl, rfl⟩ := hrel
    by_cases hlt : k < xs.length
    · obtain ⟨b, off, rfl, _, hc⟩ := hr.at hlt
      have hs := Lib.hid (show M.cnt (xs.take (k + 1)) n = M.cnt (xs.take k) n + if xs[k] % 3 = n then 1 else 0 by rw [take_snoc hlt, M.cnt_snoc])
      have hle := M.cnt_le (xs.take k) n
      rw [List.length_take] at hle
      generalize M.cnt (xs.take k) n = m at *
      generalize xs[k] = y at *
      by_cases hy : y % 3 = n
      · have hb : ((y : Int) % 3 == (n : Int)) = true := by simp; omega
        have hs2 : Hid (M.cnt (xs.take (k + 1)) n = m + 1) := by show M.cnt _ n = m + 1; rw [hs.out, if_pos hy]
        clear hs hy
        go_wp2
        go_round
        case rel => exact ⟨k + 1, by omega, by go_num, by rw [hs2.out]; go_num⟩
        case measure => simp [intOf]; omega
      · have hb : ((y : Int) % 3 == (n : Int)) = false := by simp; omega
        have hs2 : Hid (M.cnt (xs.take (k + 1)) n = m) := by show M.cnt _ n = m; rw [hs.out, if_neg hy]; rfl
        clear hs hy
        go_wp2
        go_round
        case rel => exact ⟨k + 1, by omega, by go_num, by rw [hs2.out]⟩
        case measure => simp [intOf]; omega
    · rw [take_all hlt]
      go_wp2
      go_ret
      exact ⟨rfl, rfl⟩

theorem take_take {xs : List Nat} {k : Nat} (h : k ≤ xs.length) : (xs.take k).length = k := by rw [List.length_take]; omega
set_option maxHeartbeats 1000000 in
theorem ref_peak (A : Option Addr) (cp : Nat) (xs : List Nat) (w : World) (B : Nat) (hr : Rb w B A xs) (hl : xs.length ≤ 1000000) (hcp : xs.length ≤ cp) :
    Calls Try.prog 16 #[.slice A xs.length cp] w fun e w' => e = .returned (.int .i64 (M.top xs : Nat)) ∧ w = w' := by
  go_enter Try.func16, Try.ntmps16
  go_wp2
  go_loop [3, 7] (fun m i => ∃ k : Nat, k ≤ xs.length ∧ i = .int .i64 k ∧ m = .int .i64 (M.top (xs.take k) : Nat)) (fun _ i => xs.length - (intOf i).toNat)
  case atStart => exact ⟨0, by omega, rfl, rfl⟩
  case round =>
    obtain ⟨k, hk, rfl, rfl⟩ := hrel
    by_cases hlt : k < xs.length
    · obtain ⟨b, off, rfl, _, _⟩ := hr.at hlt
      have hs := Lib.hid (M.top_take_succ xs k hlt)
      have hln := take_take (xs := xs) (k := k + 1) (by omega)
      have hct := fun W => ref_taken (some ⟨b, off, none⟩) cp (xs.take (k + 1)) W B
      rw [hln] at hct
      have hc2 := Lib.hid (hct w (hr.take (k + 1)) (by omega))
      have t1 := M.taken_le (xs.take (k + 1))
      have t2 := M.top_le (xs.take k)
      rw [hln] at t1
      rw [List.length_take] at t2
      clear hln hct
      generalize M.taken (xs.take (k + 1)) = a at *
      generalize M.top (xs.take k) = m at *
      go_wp2_with (go_at_call 10; refine hc2.out.mono ?_; rintro e w' ⟨rfl, rfl⟩)
      go_round
      case rel => exact ⟨k + 1, by omega, by go_num, by rw [hs.out]; congr 1; split <;> omega⟩
      case measure => simp [intOf]; omega
    · rw [take_all hlt]
      go_wp2
      go_ret
      exact ⟨rfl, rfl⟩

theorem byte_info : (Try.prog.info? 5).map (fun i => (i.zero, i.size, i.bytes)) = some (some (.int .u8 0), 1, 1) := by kernel_rfl
theorem cell_one (w : World) (v : Value) (t : TypeId) (j : Nat) (u : Value) (h : [v][j]? = some u) : (w.alloc (.cells #[v] t)).cell? ((⟨w.heap.size, 0, none⟩ : Addr).add j) = some u := by
  match j, h with
  | 0, h =>
    rw [add_off]
    simp at h
    subst h
    simp
theorem one_int (k : IntKind) (n : Int) (u : Value) (h : u ∈ [Value.int k n]) : u.oneCell' = true := by
  simp at h; subst h; rfl
abbrev bv (xs : List Nat) : List Value := xs.map fun a : Nat => Value.int .u8 (a : Int)
theorem own_snoc {w w0 w1 : World} {xs : List Nat} {y : Nat} {v v' : Value} {t : TypeId} (hb : Below w.heap.size w w0) (hown : w0.ownsRow w.heap.size 5 1 v xs.length (bv xs))
    (hown' : w1.ownsRow w.heap.size 5 1 v' (xs.length + 1) (bv xs ++ [.int .u8 (y : Int)])) (hgrow : (w0.alloc (.cells #[.int .u8 (y : Int)] t)).grownBy w1 v.ownBlock) :
    w1.ownsRow w.heap.size 5 1 v' (xs ++ [y]).length (bv (xs ++ [y])) ∧ Below w.heap.size w w1 :=
  ⟨by rw [bv, List.map_append, List.length_append]; exact hown', (hb.alloc hb.size _).grown hgrow (by have := hb.size; simp; omega) (fun g hg => (hown.lt g hg).1)⟩

set_option maxHeartbeats 1000000 in
theorem ref_bytes (A : Option Addr) (cp : Nat) (xs : List Nat) (n : Nat) (w : World) (hr : Rb w w.heap.size A xs) (hl : xs.length ≤ 9223372036854775807) (hn : n ≤ 1000000) :
    Calls Try.prog 7 #[.slice A xs.length cp, .int .i64 (n : Int)] w fun e w' => ∃ v, e = .returned v ∧ w'.ownsRow w.heap.size 5 1 v (xs.take n).length (bv (xs.take n)) ∧ Below w.heap.size w w' := by
  obtain ⟨i0, hi, hz0, hz1, hz2⟩ := info_parts byte_info
  go_enter Try.func7, Try.ntmps7
  go_wp2
  go_loopw [5, 10] (fun v i wr => ∃ k : Nat, k ≤ xs.length ∧ i = .int .i64 k ∧ wr.ownsRow w.heap.size 5 1 v (xs.take (min k n)).length (bv (xs.take (min k n))) ∧ Below w.heap.size w wr)
    (fun _ i _ => xs.length - (intOf i).toNat)
  case atStart => exact ⟨0, by omega, rfl, by simp [World.ownsRow_nil], Below.refl _ _⟩
  case round =>
    obtain ⟨k, hk, rfl, hown, hb⟩ := hrel
    by_cases hlt : k < xs.length
    · obtain ⟨b, off, rfl, _, hc⟩ := (hr.below hb (Nat.le_refl _)).at hlt
      by_cases hkn : k < n
      · have e1 : min k n = k := by omega
        have e2 : min (k + 1) n = k + 1 := by omega
        rw [e1] at hown
        have hs := Lib.hid (show xs.take (min (k + 1) n) = xs.take k ++ [xs[k]] by rw [e2, take_snoc hlt])
        have hlen : (xs.take k).length ≤ 1000000 := by rw [List.length_take]; omega
        clear e1 e2
        generalize xs.take k = ds at *
        generalize xs[k] = y at *
        go_wp2_with (at_builtin; refine wpList_append_own _ rfl _ _ 22 rfl w.heap.size 5 i0 (.int .u8 0) 1 1 Try.underlying22 hi hz0 hz1 hz2 rfl (by decide) _ _ _ rfl (hown.alloc _) ⟨wr.heap.size, 0, none⟩ 1 1 [.int .u8 (y : Int)] rfl rfl ?c1 ?c2 ?c3 ?c4 ?c5 ?_)
        case c1 => exact cell_one _ _ _
        case c2 => first | exact one_int _ _ | rfl
        case c3 => unfold maxLen; omega
        case c4 => omega
        case c5 => have := hb.size; simp; omega
        intro v' w1 hown' hgrow _
        obtain ⟨hown2, hb2⟩ := own_snoc hb hown hown' hgrow
        rw [← hs.out] at hown2
        clear hown' hgrow hown hb
        go_wp2
        go_roundw
        case rel => exact ⟨k + 1, by omega, by go_num, hown2, hb2⟩
        case measure => simp [intOf]; omega
      · have e1 : min k n = min (k + 1) n := by omega
        rw [e1] at hown
        clear e1
        go_wp2
        go_roundw
        case rel => exact ⟨k + 1, by omega, by go_num, hown, hb⟩
        case measure => simp [intOf]; omega
    · obtain rfl : k = xs.length := by omega
      have e1 : xs.take (min xs.length n) = xs.take n := by
        by_cases h : xs.length ≤ n
        · rw [Nat.min_eq_left h, List.take_of_length_le (Nat.le_refl _), List.take_of_length_le h]
        · rw [Nat.min_eq_right (by omega)]
      rw [e1] at hown
      clear e1
      go_wp2
      go_ret
      exact ⟨_, rfl, hown, hb⟩

/-- A meter that has gone through a script. -/
def Ms (w : World) (g : Nat) (l : List Nat) : Prop := Mt w g (M.cnt l 1) (M.cnt l 2) (M.cnt l 0) (M.taken l) (M.top l)
theorem Ms.new (w : World) (g : Nat) (h : Mt w g 0 0 0 0 0) : Ms w g [] := h
theorem Ms.mt {w : World} {g : Nat} {l : List Nat} (h : Ms w g l) : Mt w g (M.cnt l 1) (M.cnt l 2) (M.cnt l 0) (M.taken l) (M.top l) := h

theorem ms_start {W : World} {g y : Nat} {ds : List Nat} (h0 : y % 3 = 0) (h : Mt W g (M.cnt ds 1) (M.cnt ds 2) (M.cnt ds 0 + 1) 0 (M.top ds)) : Ms W g (ds ++ [y]) := by
  unfold Ms
  rw [M.cnt_snoc, M.cnt_snoc, M.cnt_snoc, M.top_snoc, M.taken_snoc, h0]
  simpa using h
theorem ms_read {W : World} {g y : Nat} {ds : List Nat} (h0 : y % 3 = 1) (h : Mt W g (M.cnt ds 1 + 1) (M.cnt ds 2) (M.cnt ds 0) (M.taken ds + 1) (max (M.top ds) (M.taken ds + 1))) : Ms W g (ds ++ [y]) := by
  unfold Ms
  rw [M.cnt_snoc, M.cnt_snoc, M.cnt_snoc, M.top_snoc, M.taken_snoc, h0]
  simpa using h
theorem ms_call {W : World} {g y : Nat} {ds : List Nat} (h0 : y % 3 = 2) (h : Mt W g (M.cnt ds 1) (M.cnt ds 2 + 1) (M.cnt ds 0) (M.taken ds + 1) (max (M.top ds) (M.taken ds + 1))) : Ms W g (ds ++ [y]) := by
  unfold Ms
  rw [M.cnt_snoc, M.cnt_snoc, M.cnt_snoc, M.top_snoc, M.taken_snoc, h0]
  simpa using h
theorem Below.of_grown {W a b : World} {g : Nat} (h : Below W.heap.size W a) (hg : a.grownBy b (some g)) (hge : W.heap.size ≤ g) : Below W.heap.size W b :=
  h.grown hg h.size (fun k hk => by injection hk with hk; omega)

set_option maxHeartbeats 1000000 in
theorem law_play (A : Option Addr) (cp : Nat) (xs : List Nat) (w : World) (hr : Rb w w.heap.size A xs) (hl : xs.length ≤ 900000) :
    Calls Try.prog 8 #[.slice A xs.length cp] w fun e w' => ∃ g, e = .returned (.pointer (some ⟨g, 0, none⟩)) ∧ w.heap.size ≤ g ∧ Ms w' g xs ∧ Below w.heap.size w w' := by
  go_enter Try.func8, Try.ntmps8
  go_wp2_with (go_at_call 22; refine (m_new _).mono ?_; rintro e w1 ⟨rfl, hm, hb1⟩)
  have hmH := Lib.hid hm
  clear hm
  generalize hg : w.heap.size = g at *
  have hgH := Lib.hid hg
  clear hg
  go_loopw [9] (fun i wr => ∃ k : Nat, k ≤ xs.length ∧ i = .int .i64 k ∧ Hid (Ms wr g (xs.take k)) ∧ Below g w wr)
    (fun i _ => xs.length - (intOf i).toNat)
  case atStart => exact ⟨0, by omega, rfl, hmH, hb1⟩
  case round =>
    obtain ⟨k, hk, rfl, hms, hb⟩ := hrel
    by_cases hlt : k < xs.length
    · obtain ⟨b, off, rfl, hbg, hc⟩ := (hr.below hb (Nat.le_refl _)).at hlt
      have hsn := take_snoc hlt
      have hlen : (xs.take k).length ≤ 900000 := by rw [List.length_take]; omega
      have c0 := M.cnt_le (xs.take k) 0
      have c1 := M.cnt_le (xs.take k) 1
      have c2 := M.cnt_le (xs.take k) 2
      have c3 := M.taken_le (xs.take k)
      generalize xs.take k = ds at *
      generalize xs[k] = y at *
      have hsH := Lib.hid hsn
      clear hsn
      have h3 : y % 3 = 0 ∨ y % 3 = 1 ∨ y % 3 = 2 := by omega
      rcases h3 with h3 | h3 | h3
      ·
        have h0 : y % 3 = 0 := h3
        clear h3
        have hy : ((y : Int) % 3 == 0) = true := by simp; omega
        have hL := Lib.hid h0
        clear h0
        go_wp2_with (go_at_call 17; refine (m_start _ g _ _ _ _ _ hms.out (by omega)).mono ?_; rintro e w2 ⟨rfl, hm2, hg2⟩)
        have hb2 := hb.grown hg2 (by have := hb.size; have := hb1.size; have := hgH.out; omega) (fun j hj => by injection hj with hj; omega)
        go_roundw
        case rel => exact ⟨k + 1, by omega, by go_num, by rw [hsH.out]; exact ms_start hL.out hm2, hb2⟩
        case measure => simp [intOf]; omega
      ·
        have h0 : y % 3 = 1 := h3
        clear h3
        have hy : ((y : Int) % 3 == 0) = false := by simp; omega
        have hy1 : ((y : Int) % 3 == 1) = true := by simp; omega
        have hL := Lib.hid h0
        clear h0
        go_wp2_with (go_at_call 18; refine (m_read _ g _ _ _ _ _ hms.out (by omega) (by omega)).mono ?_; rintro e w2 ⟨rfl, hm2, hg2⟩)
        have hb2 := hb.grown hg2 (by have := hb.size; have := hb1.size; have := hgH.out; omega) (fun j hj => by injection hj with hj; omega)
        go_roundw
        case rel => exact ⟨k + 1, by omega, by go_num, by rw [hsH.out]; exact ms_read hL.out hm2, hb2⟩
        case measure => simp [intOf]; omega
      ·
        have h0 : y % 3 = 2 := h3
        clear h3
        have hy : ((y : Int) % 3 == 0) = false := by simp; omega
        have hy1 : ((y : Int) % 3 == 1) = false := by simp; omega
        have hL := Lib.hid h0
        clear h0
        go_wp2_with (go_at_call 19; refine (m_call _ g _ _ _ _ _ hms.out (by omega) (by omega)).mono ?_; rintro e w2 ⟨rfl, hm2, hg2⟩)
        have hb2 := hb.grown hg2 (by have := hb.size; have := hb1.size; have := hgH.out; omega) (fun j hj => by injection hj with hj; omega)
        go_roundw
        case rel => exact ⟨k + 1, by omega, by go_num, by rw [hsH.out]; exact ms_call hL.out hm2, hb2⟩
        case measure => simp [intOf]; omega
    · rw [take_all hlt] at hms
      go_wp2
      go_ret
      exact ⟨g, rfl, Nat.le_of_eq hgH.out, hms.out, by rw [hgH.out]; exact hb⟩
end Go.Proofs.Ytjigfneckohboaa
