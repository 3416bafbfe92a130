
/- What the calls of a meter do to its five numbers in memory: contracts of each, the text walked. -/
import Derived.Test.YtihhkdcgnnfkkaaProg
import Derived.Test.YtihhkdcgnnfkkaaCMath
import Derived.WalkKit
import Derived.OwnWalk
import Derived.Laws.OwnMore
import Derived.Below
import Derived.LoopTactic
import Derived.RegionTactic
import Derived.ChangeAlike
import Derived.Outline
import Derived.Lib.Hide
import Derived.Deep.Draws
import Derived.Laws.Rows
namespace Go.Proofs.Ytihhkdcgnnfkkaa.Pp
open Go.RowKit

theorem ret_int {k : IntKind} {a b : Int} (h : a = b) : Ending.returned (.int k a) = .returned (.int k b) := by rw [h]
theorem ret_bool {a b : Bool} (h : a = b) : Ending.returned (.bool a) = .returned (.bool b) := by rw [h]

/-- Block g is a meter's five numbers. -/
def Mt (w : World) (g r c s t p : Nat) : Prop := w.heap[g]? = some (.cells #[.int .i64 (r : Int), .int .i64 (c : Int), .int .i64 (s : Int), .int .i64 (t : Int), .int .i64 (p : Int)] 72 (0, 0))
section
variable {w w' : World} {g r c s t p : Nat}
theorem Mt.lt (h : Mt w g r c s t p) : g < w.heap.size := by
  rcases Nat.lt_or_ge g w.heap.size with hlt | hge
  · exact hlt
  · unfold Mt at h; rw [Array.getElem?_eq_none hge] at h; cases h
theorem Mt.cell (h : Mt w g r c s t p) (i : Nat) : w.cell? ⟨g, i, none⟩ = (#[.int .i64 (r : Int), .int .i64 (c : Int), .int .i64 (s : Int), .int .i64 (t : Int), .int .i64 (p : Int)] : Array Value)[i]? := cell_of_row w g i _ 72 (0, 0) h
theorem Mt.c0 (h : Mt w g r c s t p) : w.cell? ⟨g, 0, none⟩ = some (.int .i64 r) := h.cell 0
theorem Mt.c1 (h : Mt w g r c s t p) : w.cell? ⟨g, 1, none⟩ = some (.int .i64 c) := h.cell 1
theorem Mt.c2 (h : Mt w g r c s t p) : w.cell? ⟨g, 2, none⟩ = some (.int .i64 s) := h.cell 2
theorem Mt.c3 (h : Mt w g r c s t p) : w.cell? ⟨g, 3, none⟩ = some (.int .i64 t) := h.cell 3
theorem Mt.c4 (h : Mt w g r c s t p) : w.cell? ⟨g, 4, none⟩ = some (.int .i64 p) := h.cell 4
theorem Mt.frozen (h : Mt w g r c s t p) (i : Nat) : w.frozen? ⟨g, i, none⟩ = false := by
  unfold Mt at h
  simp [World.frozen?, h]
theorem Mt.below {B : Nat} (h : Mt w g r c s t p) (hb : Below B w w') (hg : g < B) : Mt w' g r c s t p := (hb.block g hg).trans h
theorem Mt.grown {row : Option Nat} (h : Mt w g r c s t p) (hb : w.grownBy w' row) (hg : some g ≠ row) : Mt w' g r c s t p := (hb.block g h.lt hg).trans h
theorem set_heap {cs : Array Value} {T : TypeId} (h : w.heap[g]? = some (.cells cs T (0, 0))) (i : Nat) (u : Value) : (w.setCell ⟨g, i, none⟩ u).heap[g]? = some (.cells (cs.setIfInBounds i u) T (0, 0)) := by
  simp [World.setCell, Array.getElem?_modify, h]
end
theorem grown_set (w : World) (g i : Nat) (u : Value) : w.grownBy (w.setCell ⟨g, i, none⟩ u) (some g) :=
  ⟨rfl, rfl, rfl, by simp [World.setCell], fun j _ hne => Below.heap_setCell w _ u j (fun e => hne (by rw [e]))⟩

theorem set_mt {w : World} {g r c s t p : Nat} (h : Mt w g r c s t p) (i : Nat) (u : Value) {r' c' s' t' p' : Nat}
    (e : (#[.int .i64 (r : Int), .int .i64 (c : Int), .int .i64 (s : Int), .int .i64 (t : Int), .int .i64 (p : Int)] : Array Value).setIfInBounds i u = #[.int .i64 (r' : Int), .int .i64 (c' : Int), .int .i64 (s' : Int), .int .i64 (t' : Int), .int .i64 (p' : Int)]) :
    Mt (w.setCell ⟨g, i, none⟩ u) g r' c' s' t' p' := by
  have := set_heap h i u
  rw [e] at this
  exact this
theorem grown_trans2 {a b c : World} {g : Nat} (h : a.grownBy b (some g)) (k : b.grownBy c (some g)) : a.grownBy c (some g) :=
  ⟨k.os.trans h.os, k.tape.trans h.tape, k.output.trans h.output, Nat.le_trans h.size k.size, fun j hj hne => (k.block j (Nat.lt_of_lt_of_le hj h.size) hne).trans (h.block j hj hne)⟩

theorem m_read_nil (w : World) :
    Calls Try.prog 41 #[.pointer none] w fun e w' => e = .returned (.tuple #[]) ∧ w = w' := by
  go_enter Try.func41, Try.ntmps41
  go_wp2
  refine bodyPost_ret (results_none rfl _ _ _) rfl ?_
  exact ⟨rfl, rfl⟩
theorem m_call_nil (w : World) :
    Calls Try.prog 44 #[.pointer none] w fun e w' => e = .returned (.tuple #[]) ∧ w = w' := by
  go_enter Try.func44, Try.ntmps44
  go_wp2
  refine bodyPost_ret (results_none rfl _ _ _) rfl ?_
  exact ⟨rfl, rfl⟩
theorem mt_drew {w : World} {g r c s t p : Nat} (h : Mt w g r c s t p) : Mt w.drew g r c s t p := h
theorem grown_drew {a b : World} {row : Option Nat} (h : a.grownBy b row) : a.grownBy b.drew row := ⟨h.os, h.tape, h.output, h.size, h.block⟩
theorem m_step (w : World) (g r c s t p : Nat) (h : Mt w g r c s t p) (ht : t < 1000000) :
    Calls Try.prog 48 #[.pointer (some ⟨g, 0, none⟩)] w fun e w' => e = .returned (.tuple #[]) ∧ Mt w' g r c s (t + 1) (max p (t + 1)) ∧ w.grownBy w' (some g) := by
  have hc := h.c3
  have hf := h.frozen 3
  have h2 : Mt (w.setCell ⟨g, 3, none⟩ (.int .i64 ((t : Int) + 1))) g r c s (t + 1) p := set_mt h 3 _ rfl
  have k3 : (w.setCell ⟨g, 3, none⟩ (.int .i64 ((t : Int) + 1))).cell? ⟨g, 3, none⟩ = some (.int .i64 ((t : Int) + 1)) := h2.c3
  have k4 := h2.c4
  have f4 := h2.frozen 4
  have H := Lib.hid h2
  have G := Lib.hid (grown_set w g 3 (.int .i64 ((t : Int) + 1)))
  clear h h2
  go_enter Try.func48, Try.ntmps48
  go_wp2
  go_region
  go_end0
  have e : (if (p : Int) < (t : Int) + 1 then (t : Int) + 1 else (p : Int)) = ((max p (t + 1) : Nat) : Int) := by split <;> omega
  rw [e]
  exact ⟨rfl, mt_drew (set_mt H.out 4 _ (p' := max p (t + 1)) rfl), grown_drew (grown_trans2 G.out (grown_set _ _ _ _))⟩

theorem m_read (w : World) (g r c s t p : Nat) (h : Mt w g r c s t p) (hr : r < 1000000) (ht : t < 1000000) :
    Calls Try.prog 41 #[.pointer (some ⟨g, 0, none⟩)] w fun e w' => e = .returned (.tuple #[]) ∧ Mt w' g (r + 1) c s (t + 1) (max p (t + 1)) ∧ w.grownBy w' (some g) := by
  have hc := h.c0
  have hf := h.frozen 0
  have h2 : Mt (w.setCell ⟨g, 0, none⟩ (.int .i64 ((r : Int) + 1))) g (r + 1) c s t p := set_mt h 0 _ rfl
  have H := Lib.hid h2
  have G := Lib.hid (grown_set w g 0 (.int .i64 ((r : Int) + 1)))
  clear h h2
  go_enter Try.func41, Try.ntmps41
  go_wp2_with (go_at_call 48; refine (m_step _ g (r + 1) c s t p H.out ht).mono ?_; rintro e w1 ⟨rfl, hm, hg⟩)
  go_end0
  exact ⟨rfl, hm, grown_trans2 G.out hg⟩
theorem m_call (w : World) (g r c s t p : Nat) (h : Mt w g r c s t p) (hr : c < 1000000) (ht : t < 1000000) :
    Calls Try.prog 44 #[.pointer (some ⟨g, 0, none⟩)] w fun e w' => e = .returned (.tuple #[]) ∧ Mt w' g r (c + 1) s (t + 1) (max p (t + 1)) ∧ w.grownBy w' (some g) := by
  have hc := h.c1
  have hf := h.frozen 1
  have h2 : Mt (w.setCell ⟨g, 1, none⟩ (.int .i64 ((c : Int) + 1))) g r (c + 1) s t p := set_mt h 1 _ rfl
  have H := Lib.hid h2
  have G := Lib.hid (grown_set w g 1 (.int .i64 ((c : Int) + 1)))
  clear h h2
  go_enter Try.func44, Try.ntmps44
  go_wp2_with (go_at_call 48; refine (m_step _ g r (c + 1) s t p H.out ht).mono ?_; rintro e w1 ⟨rfl, hm, hg⟩)
  go_end0
  exact ⟨rfl, hm, grown_trans2 G.out hg⟩
theorem new_mt (w : World) : Mt (w.alloc (.cells #[.int .i64 0, .int .i64 0, .int .i64 0, .int .i64 0, .int .i64 0] 72)) w.heap.size 0 0 0 0 0 := heap_alloc_new w _
theorem m_new (w : World) :
    Calls Try.prog 20 #[] w fun e w' => e = .returned (.pointer (some ⟨w.heap.size, 0, none⟩)) ∧ Mt w' w.heap.size 0 0 0 0 0 ∧ Below w.heap.size w w' := by
  go_enter Try.func20, Try.ntmps20
  go_wp2
  go_ret
  exact ⟨rfl, new_mt w, (Below.refl _ w).alloc (Nat.le_refl _) _⟩

/-- The slice at A reads as these bytes, in cells below block B. -/
def Rb (w : World) (B : Nat) (A : Option Addr) (xs : List Nat) : Prop :=
  xs ≠ [] → ∃ b off, A = some ⟨b, off, none⟩ ∧ b < B ∧ ∀ (k : Nat) (h : k < xs.length), w.cell? ⟨b, off + k, none⟩ = some (.int .u8 (xs[k] : Nat))
theorem Rb.below {w w' : World} {B B' : Nat} {A : Option Addr} {xs : List Nat} (h : Rb w B A xs) (hb : Below B' w w') (hB : B ≤ B') : Rb w' B A xs := fun hne => by
  obtain ⟨b, off, rfl, hlt, hc⟩ := h hne
  exact ⟨b, off, rfl, hlt, fun k hk => (hb.cell (p := ⟨b, off + k, none⟩) (by show b < B'; omega)).trans (hc k hk)⟩
theorem Rb.more {w : World} {B B' : Nat} {A : Option Addr} {xs : List Nat} (h : Rb w B A xs) (hB : B ≤ B') : Rb w B' A xs := fun hne => by
  obtain ⟨b, off, rfl, hlt, hc⟩ := h hne
  exact ⟨b, off, rfl, by omega, hc⟩
theorem Rb.at {w : World} {B : Nat} {A : Option Addr} {xs : List Nat} (h : Rb w B A xs) {k : Nat} (hk : k < xs.length) : ∃ b off, A = some ⟨b, off, none⟩ ∧ b < B ∧ w.cell? ⟨b, off + k, none⟩ = some (.int .u8 (xs[k] : Nat)) := by
  obtain ⟨b, off, rfl, hb, hc⟩ := h (by intro e; subst e; simp at hk)
  exact ⟨b, off, rfl, hb, hc k hk⟩
theorem Rb.take {w : World} {B : Nat} {A : Option Addr} {xs : List Nat} (h : Rb w B A xs) (n : Nat) : Rb w B A (xs.take n) := fun hne => by
  obtain ⟨b, off, rfl, hb, hc⟩ := h (by rintro rfl; simp at hne)
  refine ⟨b, off, rfl, hb, fun k hk => ?_⟩
  rw [List.length_take] at hk
  rw [hc k (by omega)]; simp
theorem add_off (g k : Nat) : (⟨g, 0, none⟩ : Addr).add k = ⟨g, k, none⟩ := by
  by_cases h : k = 0
  · subst h; rfl
  · simp [Addr.add, h]
theorem Rb.of_own {w : World} {base : Nat} {v : Value} {xs : List Nat} (h : w.ownsRow base 5 1 v xs.length (xs.map fun a : Nat => Value.int .u8 (a : Int))) : ∃ A c, v = .slice A xs.length c ∧ Rb w w.heap.size A xs := by
  rcases h.2 with ⟨rfl, hn⟩ | ⟨g, cap, cur, rfl, hb, hh, _⟩
  · have : xs = [] := by simpa using hn
    subst this
    exact ⟨none, 0, rfl, fun h => absurd rfl h⟩
  · refine ⟨_, _, rfl, fun hne => ⟨g, 0, rfl, ?_, fun k hk => ?_⟩⟩
    · exact (h.lt g rfl).2
    · have := h.cells (g := g) rfl k (.int .u8 (xs[k] : Nat)) (by simp [hk])
      rw [add_off] at this
      rw [Nat.zero_add]
      exact this
theorem take_snoc {xs : List Nat} {k : Nat} (h : k < xs.length) : xs.take (k + 1) = xs.take k ++ [xs[k]] := by
  rw [List.take_succ_eq_append_getElem h]
theorem take_all {xs : List Nat} {k : Nat} (h : ¬ k < xs.length) : xs.take k = xs := List.take_of_length_le (by omega)
theorem mod3 (a : Nat) : ((a : Int) % 3) = ((a % 3 : Nat) : Int) := by omega

theorem take_take {xs : List Nat} {k : Nat} (h : k ≤ xs.length) : (xs.take k).length = k := by rw [List.length_take]; omega
theorem byte_info : (Try.prog.info? 5).map (fun i => (i.zero, i.size, i.bytes)) = some (some (.int .u8 0), 1, 1) := by kernel_rfl
theorem cell_one (w : World) (v : Value) (t : TypeId) (j : Nat) (u : Value) (h : [v][j]? = some u) : (w.alloc (.cells #[v] t)).cell? ((⟨w.heap.size, 0, none⟩ : Addr).add j) = some u := by
  match j, h with
  | 0, h =>
    rw [add_off]
    simp at h
    subst h
    simp
theorem one_int (k : IntKind) (n : Int) (u : Value) (h : u ∈ [Value.int k n]) : u.oneCell' = true := by
  simp at h; subst h; rfl
abbrev bv (xs : List Nat) : List Value := xs.map fun a : Nat => Value.int .u8 (a : Int)
theorem own_snoc {w w0 w1 : World} {xs : List Nat} {y : Nat} {v v' : Value} {t : TypeId} (hb : Below w.heap.size w w0) (hown : w0.ownsRow w.heap.size 5 1 v xs.length (bv xs))
    (hown' : w1.ownsRow w.heap.size 5 1 v' (xs.length + 1) (bv xs ++ [.int .u8 (y : Int)])) (hgrow : (w0.alloc (.cells #[.int .u8 (y : Int)] t)).grownBy w1 v.ownBlock) :
    w1.ownsRow w.heap.size 5 1 v' (xs ++ [y]).length (bv (xs ++ [y])) ∧ Below w.heap.size w w1 :=
  ⟨by rw [bv, List.map_append, List.length_append]; exact hown', (hb.alloc hb.size _).grown hgrow (by have := hb.size; simp; omega) (fun g hg => (hown.lt g hg).1)⟩

/-- A meter that has gone through a script. -/
def Ms (w : World) (g : Nat) (l : List Nat) : Prop := Mt w g (M.cnt l 1) (M.cnt l 2) (M.cnt l 0) (M.taken l) (M.top l)
theorem Ms.new (w : World) (g : Nat) (h : Mt w g 0 0 0 0 0) : Ms w g [] := h
theorem Ms.mt {w : World} {g : Nat} {l : List Nat} (h : Ms w g l) : Mt w g (M.cnt l 1) (M.cnt l 2) (M.cnt l 0) (M.taken l) (M.top l) := h

theorem ms_start {W : World} {g y : Nat} {ds : List Nat} (h0 : y % 3 = 0) (h : Mt W g (M.cnt ds 1) (M.cnt ds 2) (M.cnt ds 0 + 1) 0 (M.top ds)) : Ms W g (ds ++ [y]) := by
  unfold Ms
  rw [M.cnt_snoc, M.cnt_snoc, M.cnt_snoc, M.top_snoc, M.taken_snoc, h0]
  simpa using h
theorem ms_read {W : World} {g y : Nat} {ds : List Nat} (h0 : y % 3 = 1) (h : Mt W g (M.cnt ds 1 + 1) (M.cnt ds 2) (M.cnt ds 0) (M.taken ds + 1) (max (M.top ds) (M.taken ds + 1))) : Ms W g (ds ++ [y]) := by
  unfold Ms
  rw [M.cnt_snoc, M.cnt_snoc, M.cnt_snoc, M.top_snoc, M.taken_snoc, h0]
  simpa using h
theorem ms_call {W : World} {g y : Nat} {ds : List Nat} (h0 : y % 3 = 2) (h : Mt W g (M.cnt ds 1) (M.cnt ds 2 + 1) (M.cnt ds 0) (M.taken ds + 1) (max (M.top ds) (M.taken ds + 1))) : Ms W g (ds ++ [y]) := by
  unfold Ms
  rw [M.cnt_snoc, M.cnt_snoc, M.cnt_snoc, M.top_snoc, M.taken_snoc, h0]
  simpa using h
theorem Below.of_grown {W a b : World} {g : Nat} (h : Below W.heap.size W a) (hg : a.grownBy b (some g)) (hge : W.heap.size ≤ g) : Below W.heap.size W b :=
  h.grown hg h.size (fun k hk => by injection hk with hk; omega)

end Go.Proofs.Ytihhkdcgnnfkkaa.Pp
