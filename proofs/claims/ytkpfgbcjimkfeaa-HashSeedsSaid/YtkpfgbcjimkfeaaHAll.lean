
/- All of a table: the iterator over the entries as they are told; the text walked. -/
import Derived.Test.YtkpfgbcjimkfeaaHTab5
import Derived.Test.YtkpfgbcjimkfeaaRangeO
namespace Go.Proofs.Ytkpfgbcjimkfeaa
open Go.RowKit Go.Shelf
attribute [local go_sem] Oper.semAt_some
/-- Block g begins with the entries l. -/
def ER (w : World) (g : Nat) (l : List H.En) : Prop :=
  g < w.heap.size ∧ ∀ (k : Nat) (hk : k < l.length), w.cell? ⟨g, k * 4, none⟩ = some (.int .u8 (l[k].l : Int)) ∧ w.cell? ⟨g, k * 4 + 1, none⟩ = some (.int .u64 (l[k].p : Int)) ∧ w.cell? ⟨g, k * 4 + 2, none⟩ = some (.int .u64 (l[k].v : Int)) ∧ w.cell? ⟨g, k * 4 + 3, none⟩ = some (.bool l[k].t)
theorem ER.cell {w : World} {g : Nat} {l : List H.En} (h : ER w g l) (k : Nat) (hk : k < l.length) : w.cell? ⟨g, k * 4, none⟩ = some (.int .u8 (l[k].l : Int)) ∧ w.cell? ⟨g, k * 4 + 1, none⟩ = some (.int .u64 (l[k].p : Int)) ∧ w.cell? ⟨g, k * 4 + 2, none⟩ = some (.int .u64 (l[k].v : Int)) ∧ w.cell? ⟨g, k * 4 + 3, none⟩ = some (.bool l[k].t) := h.2 k hk
theorem ER.same {w w' : World} {g : Nat} {l : List H.En} (h : ER w g l) (hs : w'.heap[g]? = w.heap[g]?) : ER w' g l := by
  have hg : g < w'.heap.size := by
    have h2 := hs
    rw [Array.getElem?_eq_getElem h.1] at h2
    exact (Array.getElem?_eq_some_iff.1 h2).1
  have hc : ∀ o, w'.cell? ⟨g, o, none⟩ = w.cell? ⟨g, o, none⟩ := fun o => by simp [World.cell?, hs]
  refine ⟨hg, fun k hk => ?_⟩
  rw [hc, hc, hc, hc]
  exact h.2 k hk
/-- What rising answers: the entries l in a block of its own. -/
def RisP (W : World) (l : List H.En) (e : Ending) (W' : World) : Prop :=
  ∃ (A : Option Addr) (c : Nat), e = .returned (.slice A l.length c) ∧ Below W.heap.size W W' ∧ (l = [] ∨ ∃ g, A = some ⟨g, 0, none⟩ ∧ W.heap.size ≤ g ∧ ER W' g l)
def encE (e : H.En) : Array Value := #[.agg #[.int .u8 (e.l : Int), .int .u64 (e.p : Int)], .int .u64 (e.v : Int)]
theorem all_any (w : World) (p : Option Addr) :
    Calls Try.prog 20 #[.pointer p] w fun e w' => e = .returned (.func (.func 27) #[] #[.pointer (some ⟨w.heap.size, 0, none⟩)]) ∧ w' = w.alloc (.cells #[.pointer p] 27) := by
  go_enter Try.func20, Try.ntmps20
  go_wp2
  go_ret
  exact ⟨rfl, rfl⟩
set_option maxRecDepth 100000 in
set_option maxHeartbeats 2000000 in
theorem all_stops (n : Nat) (hn : 1 ≤ n) (Bn n₀ : Nat) (p : Option Addr) (l : List H.En) (hl : l.length ≤ 1000000) (w : World) (hBn : Bn < w.heap.size) (hc : w.cell? ⟨Bn, 0, none⟩ = some (.pointer p))
    (hris : ∀ W, Below w.heap.size w W → Calls Try.prog 28 #[.pointer p] W (RisP W l)) :
    SeqO Fence.wide n Try.prog 27 #[.pointer (some ⟨Bn, 0, none⟩)] encE n₀ (fun xs => xs = l) (fun pre => pre <+: l) l.length w := by
  intro L J Jx W hW hJ hJx hY h0
  have hbc : W.cell? ⟨Bn, 0, none⟩ = some (.pointer p) := (hW.cell (p := ⟨Bn, 0, none⟩) hBn).trans hc
  have hr := Lib.hid (hris W hW)
  clear hris hc
  refine callsIn_of_wp Try.func27 rfl trivial ?_ rfl
  simp only [Try.ntmps27, List.size_toArray, List.length_cons, List.length_nil, Nat.reduceAdd, Nat.reduceSub, Array.replicate_succ, Array.replicate_zero, List.push_toArray, List.append_toArray, List.nil_append, List.cons_append]
  gi_wp2_with (refine ⟨trivial, ?_⟩; gi_at_call 28; refine (callsIn_wide.2 hr.out).mono ?_; rintro e W1 ⟨A, c, rfl, hb1, hrow⟩; have HB1 := Lib.hid hb1; have HROW := Lib.hid hrow; clear hb1 hrow)
  rcases HROW.out with rfl | ⟨g, rfl, hg1, her⟩
  · have h1 : J [] (fun _ => False) W1 := hJ _ _ _ _ _ h0 (ButS.of_below HB1.out (Nat.le_refl _)) (fun _ h => h.elim)
    gi_loopw [8] (fun u wr => u = .int .i64 0 ∧ J [] (fun _ => False) wr) (fun _ _ => 0)
    case atStart => exact ⟨rfl, h1⟩
    case round =>
      obtain ⟨rfl, hJr⟩ := hrel
      gi_wp2
      go_end0
      exact ⟨⟨_, rfl⟩, .inl (by first | exact ⟨[], _, rfl, hJr⟩ | exact ⟨_, hJr⟩)⟩
  · have h1 : J [] (· = g) W1 := hJ _ _ _ _ _ h0 (ButS.of_below HB1.out (Nat.le_refl _)) (fun j h => by subst h; exact ⟨.inr hg1, her.1⟩)
    have hER := Lib.hid her
    have hJ1 := Lib.hid h1
    clear her h1 HROW
    generalize hL : l.length = m at *
    have HL := Lib.hid hL
    clear hL
    gi_loopw [8] (fun u wr => ∃ k : Nat, k ≤ m ∧ u = .int .i64 (k : Int) ∧ Hid (J (l.take k) (· = g) wr) ∧ Hid (ER wr g l)) (fun u _ => m - (intOf u).toNat)
    case atStart => exact ⟨0, by omega, rfl, hJ1, hER⟩
    case round =>
      obtain ⟨k, hk, rfl, hJr, hEr⟩ := hrel
      clear hJ1 hER
      by_cases hlt : k < m
      · have hkl : k < l.length := by rw [HL.out]; exact hlt
        have hT1 : decide ((k : Int) < (m : Int)) = true := decide_eq_true (by omega)
        have hT2 : decide (k < m) = true := decide_eq_true hlt
        obtain ⟨x0, x1, x2, x3⟩ := hEr.out.cell k hkl
        have htk := Lib.hid (show l.take (k + 1) = l.take k ++ [l[k]] by rw [List.take_succ_eq_append_getElem hkl])
        have hglt : g < wr.heap.size := hEr.out.1
        generalize l[k] = e at *
        have hJ2 : J (l.take k) (· = g) (wr.alloc (.cells #[.int .u8 (e.l : Int), .int .u64 (e.p : Int), .int .u64 (e.v : Int), .bool e.t] 60)) :=
          hJ _ _ _ _ _ hJr.out (but_alloc' _ _ _) (fun j h => by subst h; exact ⟨.inl rfl, by simp; omega⟩)
        obtain ⟨fn, tmps, assign, body, hy, hR⟩ := hY _ e _ _ hJ2 (by rw [List.length_take]; omega)
        dsimp only [encE] at hy
        clear hJ2
        gi_wp2
        refine hR.mono ?_
        rintro ee W3 (⟨rfl, hJ3, hk3, hR3⟩ | ⟨rfl, hJx3⟩)
        · have hJ4 : Hid (J (l.take (k + 1)) (· = g) W3) := by rw [htk.out]; exact hJ3
          have hE4 := Lib.hid (hEr.out.same ((hR3 g rfl).trans (Below.heap_alloc _ _ _ hglt)))
          clear hJ3 hk3 hR3
          gi_wp2
          go_roundw
          case rel => exact ⟨k + 1, by omega, by go_num, hJ4, hE4⟩
          case measure => simp [intOf]; omega
        · have hJ4 : Hid (Jx (l.take (k + 1)) (· = g) W3) := by rw [htk.out]; exact hJx3
          gi_wp2
          refine bodyPost_ret (results_none rfl _ _ _) rfl ?_
          exact ⟨⟨_, rfl⟩, .inr ⟨_, _, List.take_prefix _ _, hJ4.out⟩⟩
      · obtain rfl : k = m := by omega
        have hT1 : decide ((k : Int) < (k : Int)) = false := decide_eq_false (by omega)
        have hT2 : decide (k < k) = false := decide_eq_false (by omega)
        have hJ4 : Hid (J l (· = g) wr) := by
          have := hJr.out
          rw [List.take_of_length_le (Nat.le_of_eq HL.out)] at this
          exact this
        gi_wp2
        go_end0
        exact ⟨⟨_, rfl⟩, .inl ⟨l, _, rfl, hJ4.out⟩⟩
end Go.Proofs.Ytkpfgbcjimkfeaa
