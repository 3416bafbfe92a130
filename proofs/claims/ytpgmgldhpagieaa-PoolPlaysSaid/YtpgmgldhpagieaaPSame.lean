
/- The law's own function 'same' on a pool and the reference's; the text walked. -/
import Derived.Test.YtpgmgldhpagieaaPAll
import Derived.Test.YtpgmgldhpagieaaPBoth
import Derived.StillTailTactics
import Derived.Test.YtpgmgldhpagieaaRoundQ
namespace Go.Proofs.Ytpgmgldhpagieaa
open Go.RowKit Go.Shelf
attribute [local go_sem] Oper.semAt_some
/-- The number behind the last one told. -/
def cur (o : Nat) (pre : List (Nat × Nat)) : Nat := match pre.getLast? with | none => o | some y => y.1 + 1
theorem cur_nil (o : Nat) : cur o [] = o := rfl
theorem cur_snoc (o : Nat) (pre : List (Nat × Nat)) (x : Nat × Nat) : cur o (pre ++ [x]) = x.1 + 1 := by simp [cur]
theorem cur_cons (o : Nat) (y : Nat × Nat) (pre : List (Nat × Nat)) : cur o (y :: pre) = cur (y.1 + 1) pre := by
  cases pre with
  | nil => rfl
  | cons z pre =>
    simp only [cur, List.getLast?_cons_cons]
    rw [List.getLast?_eq_some_getLast (List.cons_ne_nil z pre)]
theorem tks_ge : ∀ (o : Nat) (ns : List (Nat × Bool)) (q : Nat × Nat), q ∈ tks o ns → o ≤ q.1
  | o, [], q, h => by simp [tks] at h
  | o, y :: ys, q, h => by
    rw [tks_cons] at h
    by_cases hy : y.2 = true
    · rw [if_pos hy] at h
      rcases List.mem_cons.1 h with rfl | h
      · exact Nat.le_refl _
      · have := tks_ge (o + 1) ys q h; omega
    · rw [if_neg hy] at h
      have := tks_ge (o + 1) ys q h; omega
theorem next_taken : ∀ (o : Nat) (ns : List (Nat × Bool)) (pre : List (Nat × Nat)) (x : Nat × Nat), pre ++ [x] <+: tks o ns →
    ∃ d, ∃ hd : d < ns.length, x.1 = o + d ∧ ns[d] = (x.2, true) ∧ cur o pre ≤ x.1 ∧ ∀ k (hk : k < d), cur o pre ≤ o + k → (ns[k]'(by omega)).2 = false
  | o, [], pre, x, h => by simp [tks] at h
  | o, y :: ys, pre, x, h => by
    rw [tks_cons] at h
    by_cases hy : y.2 = true
    · rw [if_pos hy] at h
      cases pre with
      | nil =>
        obtain ⟨t, ht⟩ := h
        simp at ht
        obtain ⟨rfl, _⟩ := ht
        refine ⟨0, by simp, rfl, ?_, by simp [cur], fun k hk => by omega⟩
        simp [← hy]
      | cons z pre =>
        rw [List.cons_append, List.cons_prefix_cons] at h
        obtain ⟨rfl, h⟩ := h
        obtain ⟨d, hd, h1, h2, h3, h4⟩ := next_taken (o + 1) ys pre x h
        have e : cur o ((o, y.1) :: pre) = cur (o + 1) pre := cur_cons o (o, y.1) pre
        rw [e]
        refine ⟨d + 1, by simp; omega, by omega, by simpa using h2, h3, fun k hk hc => ?_⟩
        cases k with
        | zero =>
          exfalso
          have : o + 1 ≤ cur (o + 1) pre := by
            unfold cur
            cases hp : pre.getLast? with
            | none => exact Nat.le_refl _
            | some q =>
              have hq : q ∈ pre := List.mem_of_getLast? hp
              have := tks_ge (o + 1) ys q (h.subset (by simp [hq]))
              show o + 1 ≤ q.1 + 1
              omega
          omega
        | succ k =>
          have := h4 k (by omega) (by omega)
          simpa using this
    · rw [if_neg hy] at h
      obtain ⟨d, hd, h1, h2, h3, h4⟩ := next_taken (o + 1) ys pre x h
      have hc1 : cur o pre ≤ cur (o + 1) pre := by
        unfold cur
        cases pre.getLast? with
        | none => exact Nat.le_succ _
        | some q => exact Nat.le_refl _
      refine ⟨d + 1, by simp; omega, by omega, by simpa using h2, by omega, fun k hk hc => ?_⟩
      cases k with
      | zero => simpa using hy
      | succ k =>
        have hc2 : cur (o + 1) pre ≤ o + 1 + k := by
          unfold cur at hc ⊢
          cases hp : pre.getLast? with
          | none => simp
          | some q => rw [hp] at hc; simp at hc ⊢; omega
        have := h4 k (by omega) hc2
        simpa using this
theorem but_far {B : Nat} {w w' : World} (h : Below B w w') : ButS w w' (fun j => B ≤ j) := ⟨h.os, h.tape, h.output, h.size, fun j _ hn => h.block j (by omega)⟩
theorem tkn_like {ns rs : List (Nat × Bool)} (h : Like ns rs) : tkn ns = tkn rs := by
  have e : ns.map (·.2) = rs.map (·.2) := by
    apply List.ext_getElem
    · simp [h.1]
    · intro k h1 h2
      simp at h1 h2 ⊢
      exact (h.2 k h1 h2).1
  have c : ∀ l : List (Nat × Bool), tkn l = (l.map (·.2)).countP id := fun l => by
    unfold tkn
    rw [← List.countP_eq_length_filter, List.countP_map]
    rfl
  rw [c, c, e]
theorem six (w : World) (a b c d e f : Obj) : ((((((w.alloc a).alloc b).alloc c).alloc d).alloc e).alloc f).heap.size = w.heap.size + 6 ∧ ((((((w.alloc a).alloc b).alloc c).alloc d).alloc e).alloc f).heap[w.heap.size]? = some a ∧ ((((((w.alloc a).alloc b).alloc c).alloc d).alloc e).alloc f).heap[w.heap.size + 1]? = some b ∧
    ((((((w.alloc a).alloc b).alloc c).alloc d).alloc e).alloc f).heap[w.heap.size + 2]? = some c ∧ ((((((w.alloc a).alloc b).alloc c).alloc d).alloc e).alloc f).heap[w.heap.size + 3]? = some d ∧ ((((((w.alloc a).alloc b).alloc c).alloc d).alloc e).alloc f).heap[w.heap.size + 4]? = some e ∧ ((((((w.alloc a).alloc b).alloc c).alloc d).alloc e).alloc f).heap[w.heap.size + 5]? = some f ∧
    Below w.heap.size w ((((((w.alloc a).alloc b).alloc c).alloc d).alloc e).alloc f) := by
  have hh : ((((((w.alloc a).alloc b).alloc c).alloc d).alloc e).alloc f).heap = (((((w.heap.push a).push b).push c).push d).push e).push f := rfl
  refine ⟨by simp, ?_, ?_, ?_, ?_, ?_, ?_, ((((((Below.refl _ w).alloc (by omega) _).alloc (by simp) _).alloc (by simp; omega) _).alloc (by simp; omega) _).alloc (by simp; omega) _).alloc (by simp; omega) _⟩
  all_goals
    rw [hh]
    simp only [Array.getElem?_push, Array.size_push]
    repeat first | exact if_pos trivial | rw [if_pos (by omega)] | rw [if_neg (by omega)]
/-- What the rounds of 'same' keep: its result so far, how many were told, the number looked at. -/
def Sm (w0 : World) (s n c : Nat) (W : World) : Prop :=
  Below (s + 2) w0 W ∧ W.heap[s + 2]? = some (.cells #[.bool false] 4 (0, 0)) ∧ W.heap[s + 3]? = some (.cells #[.int .i64 (n : Int)] 3 (0, 0)) ∧ W.heap[s + 4]? = some (.cells #[.int .i64 (c : Int)] 3 (0, 0))
def So (s j : Nat) : Prop := j = s + 2 ∨ j = s + 3 ∨ j = s + 4
theorem Sm.but {w0 W W' : World} {s n c : Nat} {R : Nat → Prop} (h : Sm w0 s n c W) (b : ButS W W' R) (hR : ∀ j, R j → ¬ So s j ∧ s + 2 ≤ j) : Sm w0 s n c W' := by
  obtain ⟨h1, h2, h3, h4⟩ := h
  have l2 := (Array.getElem?_eq_some_iff.1 h2).1
  have l3 := (Array.getElem?_eq_some_iff.1 h3).1
  have l4 := (Array.getElem?_eq_some_iff.1 h4).1
  exact ⟨h1.trans (b.below (by omega) (fun j hj => (hR j hj).2)), (b.block _ l2 (fun h => (hR _ h).1 (.inl rfl))).trans h2, (b.block _ l3 (fun h => (hR _ h).1 (.inr (.inl rfl)))).trans h3, (b.block _ l4 (fun h => (hR _ h).1 (.inr (.inr rfl)))).trans h4⟩
theorem Sm.at_ {w0 W : World} {s n c : Nat} (h : Sm w0 s n c W) (v : Int) (c' : Nat) (hv : v = (c' : Int)) : Sm w0 s n c' (W.setCell ⟨s + 4, 0, none⟩ (.int .i64 v)) ∧ ButS W (W.setCell ⟨s + 4, 0, none⟩ (.int .i64 v)) (So s) := by
  subst hv
  obtain ⟨h1, h2, h3, h4⟩ := h
  have l2 := (Array.getElem?_eq_some_iff.1 h2).1
  have l3 := (Array.getElem?_eq_some_iff.1 h3).1
  have b := but_set W (s + 4) 0 (.int .i64 (c' : Int)) (· = s + 4) rfl
  refine ⟨⟨h1.trans (b.below (by have := h1.size; omega) (fun j hj => by omega)), (b.block _ l2 (by omega)).trans h2, (b.block _ l3 (by omega)).trans h3, ?_⟩, but_set W (s + 4) 0 _ _ (.inr (.inr rfl))⟩
  have := set_heap h4 0 (.int .i64 (c' : Int))
  simpa using this
theorem Sm.count {w0 W : World} {s n c : Nat} (h : Sm w0 s n c W) (v : Int) (n' : Nat) (hv : v = (n' : Int)) : Sm w0 s n' c (W.setCell ⟨s + 3, 0, none⟩ (.int .i64 v)) ∧ ButS W (W.setCell ⟨s + 3, 0, none⟩ (.int .i64 v)) (So s) := by
  subst hv
  obtain ⟨h1, h2, h3, h4⟩ := h
  have l2 := (Array.getElem?_eq_some_iff.1 h2).1
  have l4 := (Array.getElem?_eq_some_iff.1 h4).1
  have b := but_set W (s + 3) 0 (.int .i64 (n' : Int)) (· = s + 3) rfl
  refine ⟨⟨h1.trans (b.below (by have := h1.size; omega) (fun j hj => by omega)), (b.block _ l2 (by omega)).trans h2, ?_, (b.block _ l4 (by omega)).trans h4⟩, but_set W (s + 3) 0 _ _ (.inr (.inl rfl))⟩
  have := set_heap h3 0 (.int .i64 (n' : Int))
  simpa using this
theorem Sm.drewN {w0 W : World} {s n c : Nat} (h : Sm w0 s n c W) (k : Nat) : Sm w0 s n c (W.drewN k) := ⟨below_drewN h.1 k, h.2⟩
theorem Sm.cells {w0 W : World} {s n c : Nat} (h : Sm w0 s n c W) : W.cell? ⟨s + 2, 0, none⟩ = some (.bool false) ∧ W.cell? ⟨s + 3, 0, none⟩ = some (.int .i64 (n : Int)) ∧ W.cell? ⟨s + 4, 0, none⟩ = some (.int .i64 (c : Int)) ∧ W.frozen? ⟨s + 2, 0, none⟩ = false ∧ W.frozen? ⟨s + 3, 0, none⟩ = false ∧ W.frozen? ⟨s + 4, 0, none⟩ = false :=
  ⟨cell_of_row _ _ 0 _ _ (0, 0) h.2.1, cell_of_row _ _ 0 _ _ (0, 0) h.2.2.1, cell_of_row _ _ 0 _ _ (0, 0) h.2.2.2, by simp [World.frozen?, h.2.1], by simp [World.frozen?, h.2.2.1], by simp [World.frozen?, h.2.2.2]⟩
theorem results_same (tmps : Array Value) (w : World) (g : Nat) (b : Bool) (hp : tmps.getD 6 undef = .pointer (some ⟨g, 0, none⟩)) (hc : w.cell? ⟨g, 0, none⟩ = some (.bool b)) :
    (results Try.f14 tmps).run Try.prog w = .ok (.bool b) w := by
  have hres : Try.f14.results = #[.cell 6 4] := by kernel_rfl
  have hp' : tmps[6]?.getD undef = .pointer (some ⟨g, 0, none⟩) := by simpa using hp
  simp only [results, hres]
  simp [hp', asAddr]
  go_simp
theorem but_put' (W : World) (l : Nat) (o : Obj) : ButS W (W.putObj l o) (· = l) := ⟨rfl, rfl, rfl, by simp, fun j _ hj => World.putObj_heap_other hj⟩
theorem Sm.done {w0 W w : World} {s n c D : Nat} (h : Sm w0 s n c W) (hb : Below s w w0) (hs : w0.heap.size = s + 6) (hD : w0.heap.size ≤ D) (hK : W.heap[D]? = some (.deferred (some []))) :
    ((W.setCell ⟨s + 1 + 1, 0, none⟩ (.bool true)).drew).heap[D]? = some (.deferred (some [])) ∧ (((W.setCell ⟨s + 1 + 1, 0, none⟩ (.bool true)).drew).putObj D (.deferred none)).cell? ⟨s + 1 + 1, 0, none⟩ = some (.bool true) ∧ Below s w (((W.setCell ⟨s + 1 + 1, 0, none⟩ (.bool true)).drew).putObj D (.deferred none)) := by
  have hDl := (Array.getElem?_eq_some_iff.1 hK).1
  have l2 := (Array.getElem?_eq_some_iff.1 h.2.1).1
  have b1 := (but_set W (s + 1 + 1) 0 (.bool true) (· = s + 1 + 1) rfl).drewN 1
  have b2 := but_put' ((W.setCell ⟨s + 1 + 1, 0, none⟩ (.bool true)).drew) D (.deferred none)
  have hz := h.1.size
  refine ⟨(b1.block D hDl (by omega)).trans hK, ?_, (hb.trans (h.1.mono (by omega))).trans ((b1.below (by omega) (fun j hj => by omega)).trans (b2.below (by have := b1.size; exact Nat.le_trans (by omega) this) (fun j hj => by omega)))⟩
  have hrow : (W.setCell ⟨s + 1 + 1, 0, none⟩ (.bool true)).heap[s + 1 + 1]? = some (.cells #[.bool true] 4 (0, 0)) := by
    show (W.setCell ⟨s + 2, 0, none⟩ (.bool true)).heap[s + 2]? = _
    simpa using set_heap h.2.1 0 (.bool true)
  have e := b2.block (s + 1 + 1) (Nat.lt_of_lt_of_le l2 b1.size) (by omega)
  exact cell_of_row _ _ 0 _ _ (0, 0) (e.trans hrow)
set_option maxRecDepth 100000 in
set_option maxHeartbeats 2000000 in
theorem same_law (w : World) {B P M R lim cn cf cv cl cg q : Nat} {An Af Av Al Ag : Option Addr} {ns rs : List (Nat × Bool)} {fs gs : List Nat} (a : Po w B P M lim An cn Af cf ns fs) (b : Rf w B R lim q Av cv Al cl Ag cg rs gs) (hl : Like ns rs) (m : Nat) (mi : Int) (hmi : mi = (m : Int)) (hm : 0 < m) (hm2 : m ≤ 1000000) :
    Calls Try.prog 14 #[.pointer (some ⟨P, 0, none⟩), .pointer (some ⟨R, 0, none⟩), .int .i64 mi] w fun e w' => e = .returned (.bool true) ∧ Below w.heap.size w w' := by
  subst hmi
  refine (callsIn_wide (n := 5)).1 ?_
  refine callsIn_of_wp_marks Try.func14 rfl trivial ?_ rfl
  simp only [Try.ntmps14, List.size_toArray, List.length_cons, List.length_nil, Nat.reduceAdd, Nat.reduceSub, Array.replicate_succ, Array.replicate_zero, List.push_toArray, List.append_toArray, List.nil_append, List.cons_append]
  gi_wp2_with (refine ⟨trivial, ?_⟩; gi_at_call 24; refine (callsIn_wide.2 (all_anyP _ _)).mono ?_; rintro e w' ⟨rfl, rfl⟩)
  obtain ⟨z, h0, h1, h2, h3, h4, h5, hB⟩ := six w (.cells #[.pointer (some ⟨R, 0, none⟩)] 32) (.cells #[.int .i64 (m : Int)] 3) (.cells #[.bool false] 4) (.cells #[.int .i64 0] 3) (.cells #[.int .i64 0] 3) (.cells #[.pointer (some ⟨P, 0, none⟩)] 27)
  generalize hW0 : (((((w.alloc (.cells #[.pointer (some ⟨R, 0, none⟩)] 32)).alloc (.cells #[.int .i64 (m : Int)] 3)).alloc (.cells #[.bool false] 4)).alloc (.cells #[.int .i64 0] 3)).alloc (.cells #[.int .i64 0] 3)).alloc (.cells #[.pointer (some ⟨P, 0, none⟩)] 27) = W0 at *
  have bw : ButS w W0 (fun _ => False) := ButS.of_below hB (Nat.le_refl _)
  have a0 := a.but bw (fun _ _ h => h)
  have b0 := b.but bw (fun _ _ h => h)
  have hAn : ∀ g, An = some g → g.block < w.heap.size := fun g e => (a.pb (.inr (.inl (by rw [e]; rfl)))).2
  have hRb : ∀ j, RB R Av Al Ag j → j < w.heap.size := fun j hj => (b.rb hj).2
  have k0 : W0.cell? ⟨w.heap.size, 0, none⟩ = some (.pointer (some ⟨R, 0, none⟩)) := cell_of_row _ _ 0 _ _ (0, 0) h0
  have k1 : W0.cell? ⟨w.heap.size + 1, 0, none⟩ = some (.int .i64 (m : Int)) := cell_of_row _ _ 0 _ _ (0, 0) h1
  have k5 : W0.cell? ⟨w.heap.size + 1 + 1 + 1 + 1 + 1, 0, none⟩ = some (.pointer (some ⟨P, 0, none⟩)) := cell_of_row _ _ 0 _ _ (0, 0) h5
  have hS0 : Sm W0 w.heap.size 0 0 W0 := ⟨Below.refl _ _, h2, h3, h4⟩
  have hHB := Lib.hid hB
  have hrs := b.ns_le
  clear hW0 hB h0 h1 h2 h3 h4 h5 a b bw
  refine wpIn_rangeP rfl (by decide) (gf := 28) (lb := #[.pointer (some ⟨w.heap.size + 1 + 1 + 1 + 1 + 1, 0, none⟩)]) rfl trivial (enters_of Try.func28 (by kernel_rfl) rfl)
    (n₀ := w.heap.size + 2) (all_stopsP (5 - 1) (by decide) (w.heap.size + 1 + 1 + 1 + 1 + 1) (w.heap.size + 2) W0 a0 (fun g e => by have := hAn g e; omega) (by omega) k5 (by omega)) (by omega) (Below.refl _ _) (fun _ => rfl)
    (fun pre O W => O = So w.heap.size ∧ Sm W0 w.heap.size pre.length (cur 0 pre) W ∧ pre.length < m)
    (fun c pre O W => c = .exit 0 ∧ O = So w.heap.size ∧ Sm W0 w.heap.size pre.length (cur 0 pre) W ∧ pre.length = m)
    (fun s a1 O W => a1 = { tmps := #[.pointer (some ⟨P, 0, none⟩), .pointer (some ⟨R, 0, none⟩), .int .i64 (m : Int), undef, .pointer (some ⟨w.heap.size, 0, none⟩), .pointer (some ⟨w.heap.size + 1, 0, none⟩), .pointer (some ⟨w.heap.size + 1 + 1, 0, none⟩), .pointer (some ⟨w.heap.size + 1 + 1 + 1, 0, none⟩), .pointer (some ⟨w.heap.size + 1 + 1 + 1 + 1, 0, none⟩), .int .i64 (s.2.1 : Int), .int .u64 (s.2.2 : Int), .pointer (some ⟨P, 0, none⟩), .func (.func 28) #[] #[.pointer (some ⟨w.heap.size + 1 + 1 + 1 + 1 + 1, 0, none⟩)], .int .i64 (s.2.1 : Int), .int .u64 (s.2.2 : Int), undef, undef, undef, undef, undef, undef, undef, undef, undef, undef, undef, undef, undef, undef, undef, undef, undef, undef, undef, undef, undef, undef, undef, undef, undef, undef, undef, undef, undef, undef, undef, undef, undef, undef, undef, undef, undef, undef, undef, undef, undef, undef, undef, undef, undef, undef, undef, undef, undef, undef, undef, undef, undef, undef, undef], defers := [] } ∧ O = So w.heap.size ∧ Sm W0 w.heap.size s.1.length (cur 0 s.1) W ∧ s.1.length < m ∧ s.1 ++ [s.2] <+: tks 0 ns)
    ?hI ?hIx ?hA ?hlow (So w.heap.size) (fun j hj => by unfold So at hj; omega) ⟨rfl, hS0, hm⟩ ?assign ?body ?done ?stop
  case hI =>
    rintro pre O W W' R ⟨rfl, h2, h3⟩ hw hR
    exact ⟨rfl, h2.but hw (fun j hj => ⟨(hR j hj).1, by have := (hR j hj).2; omega⟩), h3⟩
  case hIx =>
    rintro c pre O W W' R ⟨h1, rfl, h2, h3⟩ hw hR
    exact ⟨h1, rfl, h2.but hw (fun j hj => ⟨(hR j hj).1, by have := (hR j hj).2; omega⟩), h3⟩
  case hA =>
    rintro a' s O W W' R ⟨h1, rfl, h2, h3, h4⟩ hw hR
    exact ⟨h1, rfl, h2.but hw (fun j hj => ⟨(hR j hj).1, by have := (hR j hj).2; omega⟩), h3, h4⟩
  case hlow =>
    rintro pre O W ⟨rfl, _⟩ j hj
    unfold So at hj
    omega
  case assign =>
    rintro L pre x O W ⟨rfl, h2, h3⟩ hT
    dsimp only [encP]
    gi_wp2
    exact ⟨So w.heap.size, ⟨ButS.refl _ _, fun j hj => ⟨.inl hj, by have := (Array.getElem?_eq_some_iff.1 h2.2.2.2).1; unfold So at hj; omega⟩⟩, (by first | rfl | trivial), (by first | rfl | trivial), h2, h3, hT⟩
  case body =>
    rintro L pre ⟨i, v⟩ O a1 W ⟨rfl, rfl, hS, hn, hT⟩
    obtain ⟨d, hd, e1, e2, e3, e4⟩ := next_taken 0 ns pre (i, v) hT
    obtain rfl : i = d := by simpa using e1
    have hdr : i < rs.length := by rw [← hl.1]; exact hd
    have fl : ∀ k (hk : k < rs.length), rs[k].2 = (ns[k]'(by rw [hl.1]; exact hk)).2 := fun k hk => ((hl.2 k (by rw [hl.1]; exact hk) hk).1).symm
    have hv : rs[i].1 = v := by
      have := (hl.2 i hd hdr).2 (by rw [e2])
      rw [e2] at this
      exact this.symm
    have ft : rs[i].2 = true := by rw [fl i hdr, e2]
    have ff : ∀ k (hk : k < i), cur 0 pre ≤ k → (rs[k]'(by omega)).2 = false := fun k hk hc => by rw [fl k (by omega)]; exact e4 k hk (by omega)
    obtain ⟨gl, rfl, _, _, _⟩ := b0.live_at hdr
    obtain ⟨gv, rfl, _, hva, _⟩ := b0.val_at hdr
    rw [hv] at hva
    have hlv : ∀ k (hk : k < rs.length), W0.cell? ⟨gl, k, none⟩ = some (.bool rs[k].2) := fun k hk => by
      obtain ⟨g', hg', _, h, _⟩ := b0.live_at hk
      obtain rfl : gl = g' := by simpa using hg'
      exact h
    have hgl : gl < w.heap.size := hRb gl (.inr (.inr (.inl rfl)))
    have hgv : gv < w.heap.size := hRb gv (.inr (.inl rfl))
    have hRl : R < w.heap.size := hRb R (.inl rfl)
    have x0 := b0.c0
    have x1 := b0.c1
    have HLV := Lib.hid hlv
    have FF := Lib.hid ff
    have HS := Lib.hid hS
    have HVA := Lib.hid hva
    clear hlv ff hS hva hT hv fl b0 a0 hRb hAn hl e2 e4 hd e1 hS0 k5
    obtain ⟨N, hrl⟩ : ∃ N, rs.length = N := ⟨_, rfl⟩
    have hdN : i < N := by omega
    rw [hrl] at hrs x0 x1
    generalize hpl : pre.length = c at *
    have e3 : cur 0 pre ≤ i := e3
    have hn : c < m := hn
    generalize hcu : cur 0 pre = c0 at *
    gi_wp2
    have HK0 := Lib.hid k0
    have HK1 := Lib.hid k1
    have HX0 := Lib.hid x0
    have HX1 := Lib.hid x1
    clear k0 k1 x0 x1
    gi_loopw [] (fun wr => ∃ k : Nat, c0 ≤ k ∧ k ≤ i ∧ Hid (Sm W0 w.heap.size c k wr) ∧ Hid (ButS W wr (So w.heap.size))) (fun wr => i - (intOf ((wr.cell? ⟨w.heap.size + 1 + 1 + 1 + 1, 0, none⟩).getD undef)).toNat)
    case atStart => exact ⟨c0, Nat.le_refl _, e3, HS, ButS.refl _ _⟩
    case round =>
      obtain ⟨k, hk0, hk, HM, HU⟩ := hrel
      clear HS
      have hfar : ∀ b o, b < w.heap.size + 2 → wr.cell? ⟨b, o, none⟩ = W0.cell? ⟨b, o, none⟩ := fun b o hb => HM.out.1.cell (p := ⟨b, o, none⟩) hb
      have k0 := (hfar _ 0 (by omega)).trans HK0.out
      have k1 := (hfar _ 0 (by omega)).trans HK1.out
      have x0 := (hfar _ 0 (by omega)).trans HX0.out
      have x1 := (hfar _ 1 (by omega)).trans HX1.out
      have xl := (hfar gl k (by omega)).trans (HLV.out k (by omega))
      have xv := (hfar gv i (by omega)).trans HVA.out
      have y3 : wr.cell? ⟨w.heap.size + 1 + 1 + 1, 0, none⟩ = some (.int .i64 (c : Int)) := HM.out.cells.2.1
      have y4 : wr.cell? ⟨w.heap.size + 1 + 1 + 1 + 1, 0, none⟩ = some (.int .i64 (k : Int)) := HM.out.cells.2.2.1
      have f3 : wr.frozen? ⟨w.heap.size + 1 + 1 + 1, 0, none⟩ = false := HM.out.cells.2.2.2.2.1
      have f4 : wr.frozen? ⟨w.heap.size + 1 + 1 + 1 + 1, 0, none⟩ = false := HM.out.cells.2.2.2.2.2
      have g1 : decide ((k : Int) < (N : Int)) = true := decide_eq_true (by omega)
      have g2 : decide (k < N) = true := decide_eq_true (by omega)
      have gk : (k : Int) < (N : Int) := by omega
      clear hfar
      by_cases hki : k < i
      · rw [FF.out k hki hk0] at xl
        have hup := HM.out.at_ ((k : Int) + 1) (k + 1) (by omega)
        have wk : IntKind.i64.wrap ((k : Int) + 1) = (k : Int) + 1 := IntWalk.i64_in _ (by omega)
        gi_wp2
        (refine wpIn_region_quiet_round (F := Fence.wide) rfl (by kernel_rfl) (by kernel_rfl) (by kernel_rfl) ?_; (repeat (gi_big_quiet_step (fail))); refine wpQuietIn_nil ?_; intro _ hw'; obtain ⟨nq, hw''⟩ := hw'; subst hw'')
        gi_wp2
        have hM' := (HM.out.drewN nq).at_ ((k : Int) + 1) (k + 1) (by omega)
        have z4 : ((wr.drewN nq).setCell ⟨w.heap.size + 1 + 1 + 1 + 1, 0, none⟩ (.int .i64 ((k : Int) + 1))).cell? ⟨w.heap.size + 1 + 1 + 1 + 1, 0, none⟩ = some (.int .i64 ((k + 1 : Nat) : Int)) := hM'.1.cells.2.2.1
        refine ⟨⟨k + 1, by omega, by omega, hM'.1, (HU.out.drewN nq).trans hM'.2⟩, ?_⟩
        rw [z4, y4]
        simp [intOf]
        omega
      · obtain rfl : k = i := by omega
        rw [ft] at xl
        have g3 : decide ((N : Int) ≤ (k : Int)) = false := decide_eq_false (by omega)
        have g4 : decide (N ≤ k) = false := decide_eq_false (by omega)
        have wc : IntKind.i64.wrap ((c : Int) + 1) = (c : Int) + 1 := IntWalk.i64_in _ (by omega)
        have wk : IntKind.i64.wrap ((k : Int) + 1) = (k : Int) + 1 := IntWalk.i64_in _ (by omega)
        gi_wp2
        (refine wpIn_region_quiet_round (F := Fence.wide) rfl (by kernel_rfl) (by kernel_rfl) (by kernel_rfl) ?_; (repeat (gi_big_quiet_step (fail))); refine wpQuietIn_nil ?_; intro _ hw'; obtain ⟨nq, hw''⟩ := hw'; subst hw'')
        gi_wp2
        (refine wpIn_region_quiet_round (F := Fence.wide) rfl (by kernel_rfl) (by kernel_rfl) (by kernel_rfl) ?_; (repeat (gi_big_quiet_step (fail))); refine wpQuietIn_nil ?_; intro _ hw'; obtain ⟨nq, hw''⟩ := hw'; subst hw'')
        have HD : ∀ nq, Hid (Sm W0 w.heap.size (c + 1) (k + 1) (((wr.drewN nq).setCell ⟨w.heap.size + 1 + 1 + 1, 0, none⟩ (.int .i64 ((c : Int) + 1))).setCell ⟨w.heap.size + 1 + 1 + 1 + 1, 0, none⟩ (.int .i64 ((k : Int) + 1)))) := fun nq =>
          (((HM.out.drewN nq).count ((c : Int) + 1) (c + 1) (by omega)).1.at_ ((k : Int) + 1) (k + 1) (by omega)).1
        have HU3 : ∀ nq, Hid (ButS W (((wr.drewN nq).setCell ⟨w.heap.size + 1 + 1 + 1, 0, none⟩ (.int .i64 ((c : Int) + 1))).setCell ⟨w.heap.size + 1 + 1 + 1 + 1, 0, none⟩ (.int .i64 ((k : Int) + 1))) (So w.heap.size)) := fun nq =>
          ((HU.out.drewN nq).trans ((HM.out.drewN nq).count ((c : Int) + 1) (c + 1) (by omega)).2).trans (((HM.out.drewN nq).count ((c : Int) + 1) (c + 1) (by omega)).1.at_ ((k : Int) + 1) (k + 1) (by omega)).2
        have hst : ∀ W9, Sm W0 w.heap.size (c + 1) (k + 1) W9 → ButS W W9 (So w.heap.size) → OwnStep (So w.heap.size) (So w.heap.size) W W9 := fun W9 h1 h2 => ⟨h2, fun j hj => ⟨.inl hj, by have := (Array.getElem?_eq_some_iff.1 h1.2.2.2).1; unfold So at hj; omega⟩⟩
        have HST := Lib.hid hst
        clear hst
        by_cases hcm : c + 1 = m
        · have eqb : ((c : Int) + 1 == (m : Int)) = true := by simp; omega
          gi_wp2
          refine ⟨_, HST.out _ (HD _).out (HU3 _).out, rfl, rfl, ?_, ?_⟩
          · rw [cur_snoc, List.length_append, hpl]; exact (HD _).out
          · rw [List.length_append, hpl]; exact hcm
        · have eqb : ((c : Int) + 1 == (m : Int)) = false := by simp; omega
          gi_wp2
          refine ⟨_, HST.out _ (HD _).out (HU3 _).out, rfl, ?_, ?_⟩
          · rw [cur_snoc, List.length_append, hpl]; exact (HD _).out
          · rw [List.length_append, hpl]; show c + 1 < m; omega
  case done =>
    rintro D ys O W hD hnD rfl ⟨rfl, hS, hn⟩ hK
    have hfar : ∀ b o, b < w.heap.size + 2 → W.cell? ⟨b, o, none⟩ = W0.cell? ⟨b, o, none⟩ := fun b o hb => hS.1.cell (p := ⟨b, o, none⟩) hb
    have q0 := (hfar _ 0 (by omega)).trans k0
    have q1 := (hfar _ 0 (by omega)).trans k1
    have y3 : W.cell? ⟨w.heap.size + 1 + 1 + 1, 0, none⟩ = some (.int .i64 ((tks 0 ns).length : Int)) := hS.cells.2.1
    have y2 : W.cell? ⟨w.heap.size + 1 + 1, 0, none⟩ = some (.bool false) := hS.cells.1
    have f2 : W.frozen? ⟨w.heap.size + 1 + 1, 0, none⟩ = false := hS.cells.2.2.2.1
    have hrf : ∀ N, Hid (Rf (W.drewN N) B R lim q Av cv Al cl Ag cg rs gs) := fun N => (b0.but (but_far hS.1) (fun j hj h => by have := hRb j hj; omega)).drew N
    clear hfar k0 k1
    have htl := tks_len 0 ns
    have htk : (tkn rs : Int) = ((tks 0 ns).length : Int) := by rw [← tkn_like hl]; unfold tkn; rw [← htl]
    have hrl := fun N => Lib.hid (r_len (hrf N).out ((tks 0 ns).length : Int) htk.symm)
    have hn : (tks 0 ns).length < m := hn
    have HSS := Lib.hid hS
    have HKK := Lib.hid hK
    clear hS0 hS hK hrf a0 b0 htl htk hRb hAn
    generalize (tks 0 ns).length = c at *
    gi_wp2
    refine wpIn_wide.2 ?_
    go_still_tail 6, (by kernel_rfl)
    still_call ((hrl 1).out.mono (by rintro e w' ⟨rfl, rfl⟩; exact ⟨rfl, rfl⟩))
    repeat still_step
    refine wpStill_nil ?_
    change wpList _ _ _ _ _ W.drew
    go_wp2
    obtain ⟨r1, r2, r3⟩ := HSS.out.done hHB.out z hD HKK.out
    gi_wp2
    refine ⟨by simp, .inl ⟨_, _, rfl, run_takeDeferred r1, ?_⟩⟩
    exact ⟨_, results_same _ _ _ _ rfl r2, rfl, r3⟩
  case stop =>
    rintro D cx pre O W hD hnD hpre ⟨rfl, rfl, hS, hn⟩ hK
    have hfar : ∀ b o, b < w.heap.size + 2 → W.cell? ⟨b, o, none⟩ = W0.cell? ⟨b, o, none⟩ := fun b o hb => hS.1.cell (p := ⟨b, o, none⟩) hb
    have q0 := (hfar _ 0 (by omega)).trans k0
    have q1 := (hfar _ 0 (by omega)).trans k1
    have hn : pre.length = m := hn
    rw [hn] at hS
    have y3 : W.cell? ⟨w.heap.size + 1 + 1 + 1, 0, none⟩ = some (.int .i64 (m : Int)) := hS.cells.2.1
    have y2 : W.cell? ⟨w.heap.size + 1 + 1, 0, none⟩ = some (.bool false) := hS.cells.1
    have f2 : W.frozen? ⟨w.heap.size + 1 + 1, 0, none⟩ = false := hS.cells.2.2.2.1
    have hrf : ∀ N, Hid (Rf (W.drewN N) B R lim q Av cv Al cl Ag cg rs gs) := fun N => (b0.but (but_far hS.1) (fun j hj h => by have := hRb j hj; omega)).drew N
    clear hfar k0 k1
    have htl := tks_len 0 ns
    have htk : m ≤ tkn rs := by
      have e : tkn rs = (tks 0 ns).length := by rw [← tkn_like hl]; unfold tkn; rw [← htl]
      rw [e, ← hn]
      exact hpre.length_le
    have hrl := fun N => Lib.hid (r_len (hrf N).out (tkn rs : Int) rfl)
    have htn := tkn_le rs
    have HSS := Lib.hid hS
    have HKK := Lib.hid hK
    clear hS0 hS hK hrf a0 b0 htl hRb hAn hn
    generalize tkn rs = c at *
    gi_wp2
    refine wpIn_wide.2 ?_
    go_still_tail 6, (by kernel_rfl)
    still_call ((hrl 1).out.mono (by rintro e w' ⟨rfl, rfl⟩; exact ⟨rfl, rfl⟩))
    repeat still_step
    refine wpStill_nil ?_
    change wpList _ _ _ _ _ W.drew
    go_wp2
    all_goals
      try (rw [show ((m : Int) == (c : Int)) = true by (simp; omega)])
      obtain ⟨r1, r2, r3⟩ := HSS.out.done hHB.out z hD HKK.out
      gi_wp2
      refine ⟨by simp, .inl ⟨_, _, rfl, run_takeDeferred r1, ?_⟩⟩
      exact ⟨_, results_same _ _ _ _ rfl r2, rfl, r3⟩
end Go.Proofs.Ytpgmgldhpagieaa
