/- The representative ahead of a key, and its bucket; the texts walked. A key's bucket is found; the text walked. A key's bucket is found: find; the text walked. -/
import Derived.Test.YtelfacchhclgnaaGreatMu31
section
namespace Go.Proofs.YtelfacchhclgnaaGreat
set_option maxRecDepth 20000
open Go.RowKit
theorem xg_few {r c : Int} {w : World} {X lim tk : Nat} {xs : List Nat} {O : Nat → Prop} (h : XG r c w X xs lim tk O) : tk ≤ 100 ∨ tk = 2000000 := by
  letI : Gh := ⟨r, c⟩
  obtain ⟨C, Q, M, P, L, es, hs⟩ := h
  exact hs.few
/-- What a call of the trie of representatives leaves. -/
def XP (r c : Int) (w : World) (X : Nat) (OX : Nat → Prop) (v : Value) (xs : List Nat) (lim most : Nat) (e : Ending) (w' : World) : Prop :=
  e = .returned v ∧ ∃ t OX', XG r c w' X xs lim t OX' ∧ t ≤ most ∧ K.Chg w w' OX ∧ ∀ j, OX' j → OX j ∨ w.heap.size ≤ j
section
variable {r c : Int} {w : World} {X lim : Nat} {xs : List Nat} {OX : Nat → Prop} (h : XG r c w X xs lim 2000000 OX) (k : Nat) (hk : k < 18446744073709551616)
include h hk
theorem xg_prev : Calls Tryz.prog 82 #[.pointer (some ⟨X, 0, none⟩), .int .u64 (k : Int)] w (XP r c w X OX (.tuple #[.int .u64 ((K.pv xs k : Nat) : Int), .bool (K.pvb xs k)]) xs lim 9) := by
  letI : Gh := ⟨r, c⟩
  obtain ⟨C, Q, M, P, L, es, hs⟩ := h
  exact (x_prev w X C Q M P lim 2000000 xs L es OX hs rfl k hk).mono fun e w' ⟨t, O', he, hT, ht, hC, hO⟩ => ⟨he, t, O', hT, ht, hC, hO⟩
theorem xg_insert : Calls Tryz.prog 97 #[.pointer (some ⟨X, 0, none⟩), .int .u64 (k : Int)] w (XP r c w X OX (.int .i64 ((K.inE K.xfast xs lim k : Nat) : Int)) (K.inL K.xfast xs lim k) lim 1073741824) := by
  letI : Gh := ⟨r, c⟩
  obtain ⟨C, Q, M, P, L, es, hs⟩ := h
  exact (x_insert w X C Q M P lim 2000000 xs L es OX hs rfl k hk).mono fun e w' ⟨t, O', he, hT, ht, hC, hO⟩ => ⟨he, t, O', hT, ht, hC, hO⟩
theorem xg_delete : Calls Tryz.prog 103 #[.pointer (some ⟨X, 0, none⟩), .int .u64 (k : Int)] w (XP r c w X OX (.int .i64 (((if K.fo xs k then 0 else 3 : Nat)) : Int)) (K.drop xs k) lim 1073741824) := by
  letI : Gh := ⟨r, c⟩
  obtain ⟨C, Q, M, P, L, es, hs⟩ := h
  exact (x_delete w X C Q M P lim 2000000 xs L es OX hs rfl k hk).mono fun e w' ⟨t, O', he, hT, ht, hC, hO⟩ => ⟨he, t, O', hT, ht, hC, hO⟩
end
/-- Behind a call of the representatives. -/
theorem YB.after {w w' : World} {P M X T Q lim tk : Nat} {kn : Int} {rs rs' : List Nat} {es : Es} {ns : List (Yp.Nd × Bool)} {fs : List Nat} {G : Nat → List Nat} {OX OX' : Nat → Prop} {r c r' c' : Int} {seed Qt Mt n pr t : Nat} {An : Option Addr} {cn : Nat} {Af : Option Addr} {cf : Nat}
    (h : YB w P M X T Q lim tk kn rs es ns fs G OX r c seed Qt Mt n pr An cn Af cf) (hx : XG r' c' w' X rs' lim t OX') (b : K.Chg w w' OX) (hO : ∀ j, OX' j → OX j ∨ w.heap.size ≤ j) :
    ∃ r2 c2, YB w' P M X T Q lim tk kn rs' es ns fs G OX' r2 c2 seed Qt Mt n pr An cn Af cf := by
  obtain ⟨_, r2, c2, _, _, _, _, _, hx2, _⟩ := xg_now hx
  exact ⟨r2, c2, h.xx b hx2 hO⟩
theorem xx_yw {w : World} {P M T Q Qt Mt : Nat} {OX OX' : Nat → Prop} {An Af : Option Addr} {B : Nat} (hO : ∀ j, OX' j → OX j ∨ w.heap.size ≤ j) (hB : B ≤ w.heap.size) : ∀ j, YW P M T Q Qt Mt OX' An Af j → YW P M T Q Qt Mt OX An Af j ∨ B ≤ j := by
  rintro j (h | h | h | h | h)
  · exact .inl (.inl h)
  · exact .inl (.inr (.inl h))
  · rcases hO j h with e | e
    · exact .inl (.inr (.inr (.inl e)))
    · exact .inr (by omega)
  · exact .inl (.inr (.inr (.inr (.inl h))))
  · exact .inl (.inr (.inr (.inr (.inr h))))
section
variable {w : World} {P M X T Q lim tk : Nat} {kn : Int} {rs : List Nat} {es : Es} {ns : List (Yp.Nd × Bool)} {fs : List Nat} {G : Nat → List Nat}
set_option maxHeartbeats 2000000 in
/-- The closure of find: w has the boxes, none of them the trie's. -/
theorem y_find1 {OX : Nat → Prop} {r c : Int} {seed Qt Mt n pr : Nat} {An : Option Addr} {cn : Nat} {Af : Option Addr} {cf : Nat} (h : YB w P M X T Q lim tk kn rs es ns fs G OX r c seed Qt Mt n pr An cn Af cf) (k : Nat) (hk : k < 18446744073709551616) (b2 b3 b6 b7 : Nat)
    (h2 : w.heap[b2]? = some (.cells #[.pointer (some ⟨P, 0, none⟩)] 26 (0, 0))) (h3 : w.heap[b3]? = some (.cells #[.int .u64 (k : Int)] 22 (0, 0))) (h6 : w.heap[b6]? = some (.cells #[.int .u64 0] 22 (0, 0))) (h7 : w.heap[b7]? = some (.cells #[.bool false] 4 (0, 0)))
    (hn : ∀ j, j = b2 ∨ j = b3 ∨ j = b6 ∨ j = b7 → ¬ YK P M T Q Qt Mt OX An Af ns j) (h36 : b3 ≠ b6) :
    Calls Tryz.prog 81 #[.pointer (some ⟨b2, 0, none⟩), .pointer (some ⟨b3, 0, none⟩), .pointer (some ⟨b6, 0, none⟩), .pointer (some ⟨b7, 0, none⟩)] w fun e w' => e = .returned (.tuple #[]) ∧
      ∃ t OX' r' c', t ≤ 9 ∧ XG r c w' X rs lim t OX' ∧ YB w' P M X T Q lim tk kn rs es ns fs G OX' r' c' seed Qt Mt n pr An cn Af cf ∧ w'.heap[b6]? = some (.cells #[.int .u64 ((K.pv rs k : Nat) : Int)] 22 (0, 0)) ∧ w'.heap[b7]? = some (.cells #[.bool (K.pvb rs k)] 4 (0, 0)) ∧
        K.Chg w w' (fun j => OX j ∨ j = b6 ∨ j = b7) ∧ ∀ j, OX' j → OX j ∨ w.heap.size ≤ j := by
  have c2 := cell_of_row w b2 0 _ _ (0, 0) h2
  have c3 := cell_of_row w b3 0 _ _ (0, 0) h3
  have cP := cell_of_row w P 1 _ _ (0, 0) h.row
  simp at c2 c3 cP
  have hyd : YB w.drew P M X T Q lim tk kn rs es ns fs G OX r c seed Qt Mt n pr An cn Af cf := h.drewN 1
  have HP := Lib.hid (xg_prev hyd.xg k hk)
  have HY := Lib.hid hyd
  clear hyd
  have HN := Lib.hid hn
  have H6 := Lib.hid h6
  have H7 := Lib.hid h7
  have HS0 := Lib.hid (And.intro (show w.drew.cell? ⟨b2, 0, none⟩ = some (.pointer (some ⟨P, 0, none⟩)) from c2) (And.intro (show w.drew.cell? ⟨b3, 0, none⟩ = some (.int .u64 (k : Int)) from c3) (show w.drew.cell? ⟨P, 1, none⟩ = some (.pointer (some ⟨X, 0, none⟩)) from cP)))
  have hl2 : b2 < w.heap.size := row_lt h2
  have hl3 : b3 < w.heap.size := row_lt h3
  have hl6 : b6 < w.heap.size := row_lt h6
  have hl7 : b7 < w.heap.size := row_lt h7
  have HL := Lib.hid (And.intro hl2 (And.intro hl3 (And.intro hl6 hl7)))
  have hb67 : b6 ≠ b7 := row_ne h6 h7 (by decide)
  have HB := Lib.hid hb67
  have hne : (b2 ≠ b6 ∧ b2 ≠ b7) ∧ (b3 ≠ b6 ∧ b3 ≠ b7) ∧ (P ≠ b6 ∧ P ≠ b7) := ⟨⟨row_ne h2 h6 (by decide), row_ne h2 h7 (by decide)⟩, ⟨h36, row_ne h3 h7 (by decide)⟩, fun e => hn b6 (.inr (.inr (.inl rfl))) (.inl e.symm), fun e => hn b7 (.inr (.inr (.inr rfl))) (.inl e.symm)⟩
  have HNE := Lib.hid hne
  clear h h2 h3 h6 h7 hn hne h36 hb67 hl2 hl3 hl6 hl7 c2 c3 cP
  generalize K.pv rs k = rep at *
  generalize K.pvb rs k = ok at *
  go_enter Tryz.func81, Tryz.ntmps81
  go_wp2
  go_region_held3 (fun Y => Y.cell? ⟨b2, 0, none⟩ = some (.pointer (some ⟨P, 0, none⟩)) ∧ Y.cell? ⟨b3, 0, none⟩ = some (.int .u64 (k : Int)) ∧ Y.cell? ⟨P, 1, none⟩ = some (.pointer (some ⟨X, 0, none⟩))) (first | (with_reducible exact HS0.out) | (with_reducible exact HS1.out) | (with_reducible exact HS2.out _) | (with_reducible exact HS3.out _) | (with_reducible exact HS4.out _ _) | (with_reducible exact HS5.out _ _) | go_keep)
    ((go_at_call 82; (with_reducible refine HP.out.mono ?_); rintro e w1 ⟨rfl, t, OX', hx, ht, hC, hO⟩
      have hnx : ∀ j, j = b2 ∨ j = b3 ∨ j = b6 ∨ j = b7 → ¬ OX j := fun j hj ho => HN.out j hj (.inr (.inr (.inl ho)))
      have q6 := (hC.block b6 HL.out.2.2.1 (hnx b6 (.inr (.inr (.inl rfl))))).trans H6.out
      have q7 := (hC.block b7 HL.out.2.2.2 (hnx b7 (.inr (.inr (.inr rfl))))).trans H7.out
      have f6 := frozen_of_row w1 b6 0 _ _ q6
      have f7 := frozen_of_row w1 b7 0 _ _ q7
      have k6 := cell_of_row w1 b6 0 _ _ (0, 0) q6
      have k7 := cell_of_row w1 b7 0 _ _ (0, 0) q7
      simp at k6 k7
      have q7' := ((chg_set w1 b6 0 (.int .u64 (rep : Int)) (· = b6) rfl).block b7 (row_lt q7) (fun e => HB.out e.symm)).trans q7
      have q6' := ((chg_set w1 b7 0 (.bool ok) (· = b7) rfl).block b6 (row_lt q6) (fun e => HB.out e)).trans q6
      have f6' := frozen_of_row _ b6 0 _ _ q6'
      have f7' := frozen_of_row _ b7 0 _ _ q7'
      have k6' := cell_of_row _ b6 0 _ _ (0, 0) q6'
      have k7' := cell_of_row _ b7 0 _ _ (0, 0) q7'
      simp at k6' k7'
      clear q6' q7'
      have HS1 := Lib.hid (And.intro ((hC.cell HL.out.1 (hnx b2 (.inl rfl)) 0).trans HS0.out.1) (And.intro ((hC.cell HL.out.2.1 (hnx b3 (.inr (.inl rfl))) 0).trans HS0.out.2.1) ((hC.cell (row_lt HY.out.row) (fun ho => (HY.out.a1 P ho).1 rfl) 1).trans HS0.out.2.2)))
      have hs1 := HS1.out
      have hz1 := hC.size
      have l2 : b2 < w1.heap.size := Nat.lt_of_lt_of_le HL.out.1 hz1
      have l3 : b3 < w1.heap.size := Nat.lt_of_lt_of_le HL.out.2.1 hz1
      have lP : P < w1.heap.size := Nat.lt_of_lt_of_le (row_lt HY.out.row) hz1
      have hset := fun (W : World) (u : Value) (hz : w1.heap.size ≤ W.heap.size) (b : Nat) (hb : b = b6 ∨ b = b7) (hs : W.cell? ⟨b2, 0, none⟩ = some (.pointer (some ⟨P, 0, none⟩)) ∧ W.cell? ⟨b3, 0, none⟩ = some (.int .u64 (k : Int)) ∧ W.cell? ⟨P, 1, none⟩ = some (.pointer (some ⟨X, 0, none⟩))) =>
        (show (W.setCell ⟨b, 0, none⟩ u).cell? ⟨b2, 0, none⟩ = some (.pointer (some ⟨P, 0, none⟩)) ∧ (W.setCell ⟨b, 0, none⟩ u).cell? ⟨b3, 0, none⟩ = some (.int .u64 (k : Int)) ∧ (W.setCell ⟨b, 0, none⟩ u).cell? ⟨P, 1, none⟩ = some (.pointer (some ⟨X, 0, none⟩)) from
          ⟨((chg_set W b 0 u (· = b) rfl).cell (by omega) (by rcases hb with rfl | rfl; exact HNE.out.1.1; exact HNE.out.1.2) 0).trans hs.1, ((chg_set W b 0 u (· = b) rfl).cell (by omega) (by rcases hb with rfl | rfl; exact HNE.out.2.1.1; exact HNE.out.2.1.2) 0).trans hs.2.1, ((chg_set W b 0 u (· = b) rfl).cell (by omega) (by rcases hb with rfl | rfl; exact HNE.out.2.2.1; exact HNE.out.2.2.2) 1).trans hs.2.2⟩)
      have HS2 := Lib.hid (fun u => hset w1 u (Nat.le_refl _) b6 (.inl rfl) hs1)
      have HS3 := Lib.hid (fun u => hset w1 u (Nat.le_refl _) b7 (.inr rfl) hs1)
      have HS4 := Lib.hid (fun u v => hset (w1.setCell ⟨b6, 0, none⟩ u) v (by simp [World.setCell]) b7 (.inr rfl) (hset w1 u (Nat.le_refl _) b6 (.inl rfl) hs1))
      have HS5 := Lib.hid (fun u v => hset (w1.setCell ⟨b7, 0, none⟩ u) v (by simp [World.setCell]) b6 (.inl rfl) (hset w1 u (Nat.le_refl _) b7 (.inr rfl) hs1))
      clear hset hs1 hz1 l2 l3 lP
      have HX := Lib.hid hx
      have HT := Lib.hid ht
      have HC := Lib.hid hC
      have HO := Lib.hid hO
      have Q6 := Lib.hid q6
      have Q7 := Lib.hid q7
      clear hx ht hC hO hnx q6 q7))
  all_goals
    go_end0
    obtain ⟨r2, c2, hY1⟩ := HY.out.after HX.out HC.out HO.out
    have hcs : K.Chg w1 ((w1.setCell ⟨b6, 0, none⟩ (.int .u64 (rep : Int))).setCell ⟨b7, 0, none⟩ (.bool ok)) (fun j => j = b6 ∨ j = b7) := (chg_set w1 b6 0 _ _ (.inl rfl)).same (chg_set _ b7 0 _ _ (.inr rfl))
    have hz : ∀ j, w.heap.size ≤ j → ¬ (j = b6 ∨ j = b7) := fun j hj e => by
      have h1 := HL.out.2.2.1
      have h2 := HL.out.2.2.2
      omega
    have hk0 : ∀ j, YK P M T Q Qt Mt OX An Af ns j → ¬ (j = b6 ∨ j = b7) := fun j hj e => HN.out j (.inr (.inr e)) hj
    have hx' : ∀ j, OX' j → ¬ (j = b6 ∨ j = b7) := fun j hj => by
      rcases HO.out j hj with h | h
      · exact hk0 j (.inr (.inr (.inl h)))
      · exact hz j h
    refine ⟨rfl, t, OX', r2, c2, HT.out, xg_chg HX.out hcs hx', hY1.chg hcs (fun j hj => ?_), ?_, ?_, ?_, HO.out⟩
    · rcases hj with h | h | h | h | h | h
      · exact hk0 j (.inl h)
      · exact hk0 j (.inr (.inl h))
      · exact hx' j h
      · exact hk0 j (.inr (.inr (.inr (.inl h))))
      · exact hk0 j (.inr (.inr (.inr (.inr (.inl h)))))
      · exact hk0 j (.inr (.inr (.inr (.inr (.inr h)))))
    · have h1 := row_set Q6.out 0 (.int .u64 (rep : Int))
      have h2 := ((chg_set (w1.setCell ⟨b6, 0, none⟩ (.int .u64 (rep : Int))) b7 0 (.bool ok) (· = b7) rfl).block b6 (row_lt h1) (fun e => HB.out e)).trans h1
      simpa using h2
    · have h1 := ((chg_set w1 b6 0 (.int .u64 (rep : Int)) (· = b6) rfl).block b7 (row_lt Q7.out) (fun e => HB.out e.symm)).trans Q7.out
      have h2 := row_set h1 0 (.bool ok)
      simpa using h2
    · have hd : K.Chg w w.drew (fun j => OX j ∨ j = b6 ∨ j = b7) := (chg_refl w _).drewN 1
      exact (hd.same (HC.out.mono (fun j h => .inl h))).same (hcs.mono (fun j h => .inr h))
end
end Go.Proofs.YtelfacchhclgnaaGreat
end
section
namespace Go.Proofs.YtelfacchhclgnaaGreat
set_option maxRecDepth 20000
open Go.RowKit
theorem find_res {fn : Func} {u t : Tmp} (h : fn.results = #[.tmp t, .cell u 74]) (tmps : Array Value) (w : World) (g : Nat) (a b c d : Value) (z : Value) (hu : tmps.getD u undef = .pointer (some ⟨g, 0, none⟩))
    (hc : w.heap[g]? = some (.cells #[a, b, c, d] 74 (0, 0))) (hb : tmps.getD t undef = z) : (results fn tmps).run Tryz.prog w = .ok (.tuple #[z, .agg #[a, b, c, d]]) w := by
  have hp' : tmps[u]?.getD undef = .pointer (some ⟨g, 0, none⟩) := by simpa using hu
  have hb' : tmps[t]?.getD undef = z := by simpa using hb
  have hr := run_loadVar_row (P := Tryz.prog) w g 74 74 _ (0, 0) _ hc Tryz.underlying74 (by kernel_rfl) (by kernel_rfl)
  simp [results, h, hp', hb', asAddr, hr]
abbrev bxP (P : Nat) : Obj := .cells #[.pointer (some ⟨P, 0, none⟩)] 26
abbrev bxK (k : Nat) : Obj := .cells #[.int .u64 (k : Int)] 22
/-- The boxes of find. -/
def fw (w : World) (P k : Nat) : World := ((((w.alloc (bxP P)).alloc (bxK k)).alloc Yp.ndzo).alloc (.cells #[.int .u64 0] 22)).alloc (.cells #[.bool false] 4)
theorem fw_rows (w : World) (P k : Nat) : Below w.heap.size w (fw w P k) ∧ (fw w P k).heap.size = w.heap.size + 5 ∧ (fw w P k).heap[w.heap.size]? = some (.cells #[.pointer (some ⟨P, 0, none⟩)] 26 (0, 0)) ∧ (fw w P k).heap[w.heap.size + 1]? = some (.cells #[.int .u64 (k : Int)] 22 (0, 0)) ∧
    (fw w P k).heap[w.heap.size + 2]? = some Yp.ndzo ∧ (fw w P k).heap[w.heap.size + 3]? = some (.cells #[.int .u64 0] 22 (0, 0)) ∧ (fw w P k).heap[w.heap.size + 4]? = some (.cells #[.bool false] 4 (0, 0)) := by
  have b : Below w.heap.size w (fw w P k) := by
    unfold fw
    refine ((((((Below.refl _ w).alloc (Nat.le_refl _) _).alloc ?_ _).alloc ?_ _).alloc ?_ _).alloc ?_ _) <;> simp <;> omega
  refine ⟨b, by simp [fw], ?_, ?_, ?_, ?_, ?_⟩
  · exact (Below.heap_alloc _ _ _ (by simp <;> omega)).trans ((Below.heap_alloc _ _ _ (by simp <;> omega)).trans ((Below.heap_alloc _ _ _ (by simp <;> omega)).trans ((Below.heap_alloc _ _ _ (by simp <;> omega)).trans (K.alloc_top _ _))))
  · have h := K.alloc_top (w.alloc (bxP P)) (bxK k)
    rw [World.size_alloc] at h
    exact (Below.heap_alloc _ _ _ (by simp <;> omega)).trans ((Below.heap_alloc _ _ _ (by simp <;> omega)).trans ((Below.heap_alloc _ _ _ (by simp <;> omega)).trans h))
  · have h := K.alloc_top ((w.alloc (bxP P)).alloc (bxK k)) Yp.ndzo
    rw [World.size_alloc, World.size_alloc] at h
    exact (Below.heap_alloc _ _ _ (by simp <;> omega)).trans ((Below.heap_alloc _ _ _ (by simp <;> omega)).trans h)
  · have h := K.alloc_top (((w.alloc (bxP P)).alloc (bxK k)).alloc Yp.ndzo) (.cells #[.int .u64 0] 22)
    rw [World.size_alloc, World.size_alloc, World.size_alloc] at h
    exact (Below.heap_alloc _ _ _ (by simp <;> omega)).trans h
  · have h := K.alloc_top ((((w.alloc (bxP P)).alloc (bxK k)).alloc Yp.ndzo).alloc (.cells #[.int .u64 0] 22)) (.cells #[.bool false] 4)
    rw [World.size_alloc, World.size_alloc, World.size_alloc, World.size_alloc] at h
    exact h
section
variable {w : World} {P M X T Q lim tk : Nat} {kn : Int} {rs : List Nat} {es : Es} {ns : List (Yp.Nd × Bool)} {fs : List Nat} {G : Nat → List Nat}
/-- What is left behind the search among the representatives: the boxes are beside the trie. -/
def FR (w : World) (O : Nat → Prop) (P M X T Q lim tk : Nat) (kn : Int) (rs : List Nat) (es : Es) (ns : List (Yp.Nd × Bool)) (fs : List Nat) (G : Nat → List Nat) (k : Nat) (w3 : World) : Prop :=
  ∃ O3, YT w3 P M X T Q lim tk kn rs es ns fs G O3 ∧ K.Chg w w3 O ∧ (∀ j, O3 j → O j ∨ w.heap.size + 5 ≤ j) ∧ w.heap.size + 5 ≤ w3.heap.size ∧ w3.heap[w.heap.size]? = some (.cells #[.pointer (some ⟨P, 0, none⟩)] 26 (0, 0)) ∧ w3.heap[w.heap.size + 2]? = some Yp.ndzo ∧
    w3.heap[w.heap.size + 3]? = some (.cells #[.int .u64 ((K.pv rs k : Nat) : Int)] 22 (0, 0)) ∧ w3.heap[w.heap.size + 4]? = some (.cells #[.bool (K.pvb rs k)] 4 (0, 0))
theorem y_find_carry {O : Nat → Prop} (h : YT w P M X T Q lim tk kn rs es ns fs G O) (htk : tk ≤ 100) (k : Nat) (hk : k < 18446744073709551616) :
    Calls Tryz.prog 80 #[.pointer (some ⟨P, 0, none⟩), .func (.func 81) #[] #[.pointer (some ⟨w.heap.size, 0, none⟩), .pointer (some ⟨w.heap.size + 1, 0, none⟩), .pointer (some ⟨w.heap.size + 3, 0, none⟩), .pointer (some ⟨w.heap.size + 4, 0, none⟩)]] (fw w P k) fun e w3 =>
      e = .returned (.tuple #[]) ∧ ∃ t, t ≤ 9 ∧ FR w O P M X T Q lim (tk + t) kn rs es ns fs G k w3 := by
  obtain ⟨hb, hz, r2, r3, r5, r6, r7⟩ := fw_rows w P k
  have hlt := h.lt
  have hT5 := h.below hb
  obtain ⟨OX, r, c, seed, Qt, Mt, n, pr, An, cn, Af, cf, hy, rfl⟩ := hT5
  have hyk : ∀ j, YK P M T Q Qt Mt OX An Af ns j → j < w.heap.size := fun j hj => by
    rcases hj with h | h | h | h | h | h
    · exact hlt.1 j (.inl h)
    · exact hlt.1 j (.inr (.inl h))
    · exact hlt.1 j (.inr (.inr (.inl h)))
    · exact hlt.1 j (.inr (.inr (.inr (.inl h))))
    · exact hlt.1 j (.inr (.inr (.inr (.inr h))))
    · exact hlt.2 j h
  refine (y_carry_find (fw w P k) P M X tk 9 lim _ _ _ _ r c rs OX _ _ _ _ (fun w2 => ∃ OX' r' c', YB w2 P M X T Q lim tk kn rs es ns fs G OX' r' c' seed Qt Mt n pr An cn Af cf ∧ w2.heap[w.heap.size + 3]? = some (.cells #[.int .u64 ((K.pv rs k : Nat) : Int)] 22 (0, 0)) ∧ w2.heap[w.heap.size + 4]? = some (.cells #[.bool (K.pvb rs k)] 4 (0, 0)) ∧
        K.Chg (fw w P k) w2 (fun j => OX j ∨ j = w.heap.size + 3 ∨ j = w.heap.size + 4) ∧ ∀ j, OX' j → OX j ∨ (fw w P k).heap.size ≤ j) hy.row htk (by decide) hy.xg ?_).mono ?_
  · rintro W ⟨q, rfl⟩
    refine (y_find1 (hy.drewN q) k hk w.heap.size (w.heap.size + 1) (w.heap.size + 3) (w.heap.size + 4) r2 r3 r6 r7 (fun j hj hk => by have := hyk j hk; omega) (by omega)).mono ?_
    rintro e w2 ⟨rfl, t, OX', r', c', ht, hx, hy2, q6, q7, hC, hO⟩
    have hC' : K.Chg (fw w P k) w2 (fun j => OX j ∨ j = w.heap.size + 3 ∨ j = w.heap.size + 4) := ((chg_refl (fw w P k) _).drewN q).same hC
    exact ⟨rfl, ⟨OX', r', c', hy2, q6, q7, hC', hO⟩, ⟨rs, t, OX', .inl ht, hx, fun ho => (hy2.a1 M ho).2.1 rfl⟩, hy2.row.trans hy.row.symm, hy2.mx⟩
  · rintro e w3 ⟨rfl, w2, t, ⟨OX', r', c', hy2, q6, q7, hC, hO⟩, ht, hC3, hm⟩
    have hy3 := hy2.met hC3 hm
    have hMlt := hyk M (.inr (.inl rfl))
    have hs2 := hC.size
    have keep : ∀ j o, (fw w P k).heap[j]? = some o → w.heap.size ≤ j → j ≠ w.heap.size + 3 → j ≠ w.heap.size + 4 → w3.heap[j]? = some o := fun j o hj hge n3 n4 => by
      have hjl := row_lt hj
      have h1 := (hC.block j hjl (fun ho => by rcases ho with ho | ho | ho; have := hyk j (.inr (.inr (.inl ho))); omega; exact n3 ho; exact n4 ho)).trans hj
      exact (hC3.block j (row_lt h1) (fun e => by have e2 : j = M := e; omega)).trans h1
    refine ⟨rfl, t, ht, _, ⟨OX', r', c', seed, Qt, Mt, n, pr, An, cn, Af, cf, hy3, rfl⟩, ?_, ?_, ?_, keep _ _ r2 (by omega) (by omega) (by omega), keep _ _ r5 (by omega) (by omega) (by omega), ?_, ?_⟩
    · refine ((K.Chg.of_below hb).trans hC (fun j hj => ?_)).same (hC3.mono (fun j e => .inr (.inl e)))
      rcases hj with hj | hj | hj
      · exact .inl (.inr (.inr (.inl hj)))
      · exact .inr (by omega)
      · exact .inr (by omega)
    · rintro j (h | h | h | h | h)
      · exact .inl (.inl h)
      · exact .inl (.inr (.inl h))
      · rcases hO j h with e | e
        · exact .inl (.inr (.inr (.inl e)))
        · exact .inr (by omega)
      · exact .inl (.inr (.inr (.inr (.inl h))))
      · exact .inl (.inr (.inr (.inr (.inr h))))
    · have := hC3.size
      omega
    · exact (hC3.block _ (row_lt q6) (fun e => by have e2 : w.heap.size + 3 = M := e; omega)).trans q6
    · exact (hC3.block _ (row_lt q7) (fun e => by have e2 : w.heap.size + 4 = M := e; omega)).trans q7
end
end Go.Proofs.YtelfacchhclgnaaGreat
end
section
namespace Go.Proofs.YtelfacchhclgnaaGreat
set_option maxRecDepth 20000
open Go.RowKit
section
variable {w0 w : World} {O : Nat → Prop} {P M X T Q lim tk : Nat} {kn : Int} {rs : List Nat} {es : Es} {ns : List (Yp.Nd × Bool)} {fs : List Nat} {G : Nat → List Nat}
theorem y_at_yes (h : YR w0 O P M X T Q lim tk kn rs es ns fs G w) (htk : tk ≤ 1000) (i : Nat) (nd : Yp.Nd) (hi : ns[i]? = some (nd, true)) :
    Calls Tryz.prog 84 #[.pointer (some ⟨Q, 0, none⟩), .int .i64 (i : Int)] w fun e w' => e = .returned (.tuple #[nd.v, .bool true]) ∧ YR w0 O P M X T Q lim (tk + 1) kn rs es ns fs G w' := by
  obtain ⟨hk, hx⟩ := List.getElem?_eq_some_iff.1 hi
  have h9 := h
  obtain ⟨O', ⟨OX, r, c, seed, Qt, Mt, n, pr, An, cn, Af, cf, hb, rfl⟩, hC, hO⟩ := h
  have hp := Yp.q_at_yes w Q M lim cn cf An Af ns fs hb.po i hk (by rw [hx]) tk hb.mx (by omega)
  rw [hx] at hp
  refine hp.mono ?_
  rintro e w' ⟨he, hm, hc⟩
  exact ⟨he, h9.met hc hm⟩
theorem y_at_nd (h : YR w0 O P M X T Q lim tk kn rs es ns fs G w) (htk : tk ≤ 1000) (i rep : Nat) (ksA : Option Addr) (ksn ksc : Nat) (ah be : Int) (hi : ns[i]? = some (⟨rep, ksA, ksn, ksc, ah, be⟩, true)) :
    Calls Tryz.prog 84 #[.pointer (some ⟨Q, 0, none⟩), .int .i64 (i : Int)] w fun e w' => e = .returned (.tuple #[Yp.ndv rep ksA ksn ksc ah be, .bool true]) ∧ YR w0 O P M X T Q lim (tk + 1) kn rs es ns fs G w' := y_at_yes h htk i _ hi
theorem y_at_no (h : YR w0 O P M X T Q lim tk kn rs es ns fs G w) (i : Int) (hi : Yp.lvq ns i = false) :
    Calls Tryz.prog 84 #[.pointer (some ⟨Q, 0, none⟩), .int .i64 i] w fun e w' => e = .returned (.tuple #[Yp.ndzv, .bool false]) ∧ YR w0 O P M X T Q lim tk kn rs es ns fs G w' := by
  have h9 := h
  obtain ⟨O', ⟨OX, r, c, seed, Qt, Mt, n, pr, An, cn, Af, cf, hb, rfl⟩, hC, hO⟩ := h
  refine (Yp.q_at_no w Q M lim cn cf An Af ns fs hb.po i hi).mono ?_
  rintro e w' ⟨he, hb2⟩
  exact ⟨he, h9.below hb2⟩
theorem y_call (h : YR w0 O P M X T Q lim tk kn rs es ns fs G w) (htk : tk ≤ 1000) :
    Calls Tryz.prog 83 #[.pointer (some ⟨M, 0, none⟩)] w fun e w' => e = .returned (.tuple #[]) ∧ YR w0 O P M X T Q lim (tk + 1) kn rs es ns fs G w' :=
  (Yp.x_call w M tk h.mx (by omega)).mono fun e w' ⟨he, hm, hc⟩ => ⟨he, h.met hc hm⟩
theorem y_start (h : YR w0 O P M X T Q lim tk kn rs es ns fs G w) :
    Calls Tryz.prog 46 #[.pointer (some ⟨M, 0, none⟩)] w fun e w' => e = .returned (.tuple #[]) ∧ YR w0 O P M X T Q lim 0 kn rs es ns fs G w' :=
  (Yp.x_start w M tk h.mx).mono fun e w' ⟨he, hm, hc⟩ => ⟨he, h.met hc hm⟩
/-- Which bucket is a key's. -/
def Sel (rs : List Nat) (es : Es) (ns : List (Yp.Nd × Bool)) (k : Nat) (i : Int) (nd : Yp.Nd) : Prop :=
  (K.pvb rs k = false ∧ i = -1 ∧ nd = ⟨0, none, 0, 0, -1, -1⟩) ∨ (K.pvb rs k = true ∧ ∃ num : Nat, i = (num : Int) ∧ ((0, K.pv rs k), num) ∈ es ∧ num < 1048576 ∧ ns[num]? = some (nd, true))
theorem yr_box5 {w3 w' : World} {O3 : Nat → Prop} {d : Nat} (h : YT w3 P M X T Q lim tk kn rs es ns fs G O3) (hC : K.Chg w w3 O) (hO : ∀ j, O3 j → O j ∨ w.heap.size + 5 ≤ j) (hK : ∀ j, KBl ns j → j < w.heap.size) (b : K.Chg w3 w' (· = w.heap.size + 2)) (hO1 : ∀ j, O j → j < w.heap.size) : YR w O P M X T Q lim tk kn rs es ns fs G (w'.drewN d) := by
  refine ⟨O3, (h.chg b (fun j hj e => ?_) (fun j hj e => ?_)).chg ((chg_refl w' (fun _ => False)).drewN d) (fun _ _ h => h) (fun _ _ h => h), (hC.trans b (fun j e => .inr (by omega))).drewN d, fun j hj => ?_⟩
  · rcases hO j hj with h | h
    · have := hO1 j h
      omega
    · omega
  · have := hK j hj
    omega
  · rcases hO j hj with h | h
    · exact .inl h
    · exact .inr (by omega)
theorem yr_box7 {w3 W w' : World} {O3 : Nat → Prop} {d : Nat} (hC : K.Chg w w3 O) (hO : ∀ j, O3 j → O j ∨ w.heap.size + 5 ≤ j) (h : YR w3 O3 P M X T Q lim tk kn rs es ns fs G W) (hz : w.heap.size + 5 ≤ w3.heap.size) (hK : ∀ j, KBl ns j → j < w.heap.size) (hO1 : ∀ j, O j → j < w.heap.size) (b : K.Chg W w' (· = w.heap.size + 2)) : YR w O P M X T Q lim tk kn rs es ns fs G (w'.drewN d) := by
  obtain ⟨O6, hT6, hC6, hO6⟩ := h
  have hin : ∀ j, O6 j → O j ∨ w.heap.size + 5 ≤ j := fun j hj => by
    rcases hO6 j hj with h | h
    · exact hO j h
    · exact .inr (by omega)
  have hC7 : K.Chg w W O := hC.trans hC6 (fun j hj => by
    rcases hO j hj with h | h
    · exact .inl h
    · exact .inr (by omega))
  refine ⟨O6, (hT6.chg b (fun j hj e => ?_) (fun j hj e => ?_)).chg ((chg_refl w' (fun _ => False)).drewN d) (fun _ _ h => h) (fun _ _ h => h), (hC7.trans b (fun j e => .inr (by omega))).drewN d, fun j hj => ?_⟩
  · rcases hin j hj with h | h
    · have := hO1 j h
      omega
    · omega
  · have := hK j hj
    omega
  · rcases hin j hj with h | h
    · exact .inl h
    · exact .inr (by omega)
set_option maxHeartbeats 4000000 in
theorem y_find_T (h : YT w P M X T Q lim tk kn rs es ns fs G O) (htk : tk ≤ 100) (k : Nat) (hk : k < 18446744073709551616) (i : Int) (nd : Yp.Nd) (hs : Sel rs es ns k i nd) :
    Calls Tryz.prog 47 #[.pointer (some ⟨P, 0, none⟩), .int .u64 (k : Int)] w fun e w' => e = .returned (.tuple #[.int .i64 i, nd.v]) ∧ ∃ t, t ≤ 11 ∧ YR w O P M X T Q lim (tk + t) kn rs es ns fs G w' := by
  have HC : Hid (Calls Tryz.prog 80 #[.pointer (some ⟨P, 0, none⟩), .func (.func 81) #[] #[.pointer (some ⟨w.heap.size, 0, none⟩), .pointer (some ⟨w.heap.size + 1, 0, none⟩), .pointer (some ⟨w.heap.size + 1 + 1 + 1, 0, none⟩), .pointer (some ⟨w.heap.size + 1 + 1 + 1 + 1, 0, none⟩)]] (((((w.alloc (bxP P)).alloc (bxK k)).alloc (.cells #[.int .u64 0, .slice none 0 0, .int .i64 0, .int .i64 0] 74)).alloc (.cells #[.int .u64 0] 22)).alloc (.cells #[.bool false] 4)) fun e w3 =>
      e = .returned (.tuple #[]) ∧ ∃ t, t ≤ 9 ∧ FR w O P M X T Q lim (tk + t) kn rs es ns fs G k w3) := Lib.hid (y_find_carry h htk k hk)
  obtain ⟨hb, hz, r2, r3, r5, r6, r7⟩ := fw_rows w P k
  have c2 : (((((w.alloc (bxP P)).alloc (bxK k)).alloc (.cells #[.int .u64 0, .slice none 0 0, .int .i64 0, .int .i64 0] 74)).alloc (.cells #[.int .u64 0] 22)).alloc (.cells #[.bool false] 4)).cell? ⟨w.heap.size, 0, none⟩ = some (.pointer (some ⟨P, 0, none⟩)) := cell_of_row (fw w P k) w.heap.size 0 _ _ (0, 0) r2
  have hmf : ∀ (fn : Fn) (first cap : Array Value) (w : World), (Instr.makeFunc fn first cap).run Tryz.prog w = .ok (.func fn first cap) w := fun _ _ _ _ => rfl
  have HLT := Lib.hid h.lt
  rcases hs with ⟨hpb, rfl, rfl⟩ | ⟨hpb, num, rfl, hv, hnl, hnd⟩
  · have HPB := Lib.hid hpb
    clear h hb hz r2 r3 r5 r6 r7 hpb
    go_enter Tryz.func47, Tryz.ntmps47
    go_wp2_with (go_at_call 80; (with_reducible refine (HC.out).mono ?_); rintro e w3 ⟨rfl, t, ht, O3, hT3, hC3, hO3, hz3, q2, q5, q6, q7⟩
                 rw [HPB.out] at q7
                 have k2 := cell_of_row w3 _ 0 _ _ (0, 0) q2
                 have k6 := cell_of_row w3 (w.heap.size + 1 + 1 + 1) 0 _ _ (0, 0) q6
                 have k7 := cell_of_row w3 (w.heap.size + 1 + 1 + 1 + 1) 0 _ _ (0, 0) q7
                 have q5' : w3.heap[w.heap.size + 1 + 1]? = some (.cells #[.int .u64 0, .slice none 0 0, .int .i64 0, .int .i64 0] 74 (0, 0)) := q5
                 obtain ⟨k50, k51, k52, k53⟩ := Yp.nd_cells q5'
                 have f50 := frozen_of_row w3 _ 0 _ _ q5'
                 have f51 := frozen_of_row w3 _ 1 _ _ q5'
                 have f52 := frozen_of_row w3 _ 2 _ _ q5'
                 have f53 := frozen_of_row w3 _ 3 _ _ q5'
                 simp at k2 k6 k7
                 have HT3 := Lib.hid hT3
                 have HC3 := Lib.hid hC3
                 have HO3 := Lib.hid hO3
                 have HZ3 := Lib.hid hz3
                 have Q2 := Lib.hid q2
                 have Q5 := Lib.hid q5'
                 have Q6 := Lib.hid q6
                 have Ht := Lib.hid ht
                 have hP0 := (YR.start hT3).c0
                 clear hT3 hC3 hO3 hz3 q2 q5 q5' q6 q7 ht c2)
    have hrow := Yp.row_z5 Q5.out (.int .u64 ((0 : Nat) : Int)) (.slice none 0 0) (.int .i64 (-1)) (.int .i64 (-1))
    refine bodyPost_ret (find_res rfl _ _ (w.heap.size + 1 + 1) _ _ _ _ _ rfl hrow rfl) rfl ⟨rfl, t, by have := Ht.out; omega, ?_⟩
    exact yr_box5 (d := 0) HT3.out HC3.out HO3.out HLT.out.2 (Yp.chg_five w3 (w.heap.size + 1 + 1) 0 1 2 3 _ _ _ _ (· = w.heap.size + 2) rfl) HLT.out.1
  · obtain ⟨rep, ksA, ksn, ksc, ah, be⟩ := nd
    have HPB := Lib.hid hpb
    have HV := Lib.hid hv
    have HND := Lib.hid hnd
    clear h hb hz r2 r3 r5 r6 r7 hpb hv hnd
    go_enter Tryz.func47, Tryz.ntmps47
    go_wp2_with (first
      | (go_at_call 80; (with_reducible refine (HC.out).mono ?_); rintro e w3 ⟨rfl, t, ht, O3, hT3, hC3, hO3, hz3, q2, q5, q6, q7⟩
         rw [HPB.out] at q7
         have k2 := cell_of_row w3 _ 0 _ _ (0, 0) q2
         have k6 := cell_of_row w3 (w.heap.size + 1 + 1 + 1) 0 _ _ (0, 0) q6
         have k7 := cell_of_row w3 (w.heap.size + 1 + 1 + 1 + 1) 0 _ _ (0, 0) q7
         have q5' : w3.heap[w.heap.size + 1 + 1]? = some (.cells #[.int .u64 0, .slice none 0 0, .int .i64 0, .int .i64 0] 74 (0, 0)) := q5
         obtain ⟨k50, k51, k52, k53⟩ := Yp.nd_cells q5'
         have f50 := frozen_of_row w3 _ 0 _ _ q5'
         have f51 := frozen_of_row w3 _ 1 _ _ q5'
         have f52 := frozen_of_row w3 _ 2 _ _ q5'
         have f53 := frozen_of_row w3 _ 3 _ _ q5'
         simp at k2 k6 k7
         have HT3 := Lib.hid hT3
         have HC3 := Lib.hid hC3
         have HO3 := Lib.hid hO3
         have HZ3 := Lib.hid hz3
         have Q2 := Lib.hid q2
         have Q5 := Lib.hid q5'
         have Q6 := Lib.hid q6
         have Ht := Lib.hid ht
         have hP0 := (YR.start hT3).c0
         clear hT3 hC3 hO3 hz3 q2 q5 q5' q6 q7 ht c2)
      | (go_at_call 83; (with_reducible refine (y_call (YR.start HT3.out) (by have := Ht.out; omega)).mono ?_); rintro e w4 ⟨rfl, h4⟩
         have hbx : ∀ j, w.heap.size ≤ j → j < w.heap.size + 5 → ¬ O3 j := fun j h1 h2 h3 => (by rcases HO3.out j h3 with h | h; have := HLT.out.1 j h; omega; omega)
         have HBX := Lib.hid hbx
         have hz := HZ3.out
         have p2 := (h4.same (j := w.heap.size) (by omega) (hbx _ (by omega) (by omega))).trans Q2.out
         have p5 := (h4.same (j := w.heap.size + 1 + 1) (by omega) (hbx _ (by omega) (by omega))).trans Q5.out
         have p6 := (h4.same (j := w.heap.size + 1 + 1 + 1) (by omega) (hbx _ (by omega) (by omega))).trans Q6.out
         have k2' := cell_of_row w4 _ 0 _ _ (0, 0) p2
         have k6' := cell_of_row w4 _ 0 _ _ (0, 0) p6
         simp at k2' k6'
         have HY := Lib.hid h4
         have P2 := Lib.hid p2
         have P5 := Lib.hid p5
         clear h4 hbx hz p2 p5 p6)
      | (go_at_call 79; (with_reducible refine (y_place HY.out _ num HV.out hnl).mono ?_); rintro e w5 ⟨rfl, h5⟩
         have hz := HZ3.out
         have p2 := (h5.same (j := w.heap.size) (by omega) (HBX.out _ (by omega) (by omega))).trans Q2.out
         have p5 := (h5.same (j := w.heap.size + 1 + 1) (by omega) (HBX.out _ (by omega) (by omega))).trans Q5.out
         have k2'' := cell_of_row w5 _ 0 _ _ (0, 0) p2
         simp at k2''
         have c3 := h5.c3
         have HY5 := Lib.hid h5
         clear h5 hz p2 p5)
      | (go_at_call 84; (with_reducible refine (y_at_nd HY5.out (by have := Ht.out; omega) num rep ksA ksn ksc ah be HND.out).mono ?_); rintro e w6 ⟨rfl, h6⟩
         have hz := HZ3.out
         have p5 := (h6.same (j := w.heap.size + 1 + 1) (by omega) (HBX.out _ (by omega) (by omega))).trans Q5.out
         have hl5 := row_lt p5
         have p5' := (Below.heap_alloc w6 (Yp.ndo rep ksA ksn ksc ah be) _ hl5).trans p5
         obtain ⟨k50, k51, k52, k53⟩ := Yp.nd_cells p5'
         have f50 := frozen_of_row _ _ 0 _ _ p5'
         have f51 := frozen_of_row _ _ 1 _ _ p5'
         have f52 := frozen_of_row _ _ 2 _ _ p5'
         have f53 := frozen_of_row _ _ 3 _ _ p5'
         have HY6 := Lib.hid h6
         have P6 := Lib.hid p5'
         clear h6 hz p5 hl5 p5'))
    go_region
    all_goals
      go_wp2
      have hrow := Yp.row_z5 P6.out (.int .u64 (rep : Int)) (.slice ksA ksn ksc) (.int .i64 ah) (.int .i64 be)
      refine bodyPost_ret (find_res rfl _ _ (w.heap.size + 1 + 1) _ _ _ _ _ rfl hrow rfl) rfl ⟨rfl, t + 2, by have := Ht.out; omega, ?_⟩
      have h7 := HY6.out.below ((Below.refl _ w6).alloc (Nat.le_refl _) (Yp.ndo rep ksA ksn ksc ah be))
      exact yr_box7 HC3.out HO3.out h7 HZ3.out HLT.out.2 HLT.out.1 (Yp.chg_five (w6.alloc (Yp.ndo rep ksA ksn ksc ah be)) (w.heap.size + 1 + 1) 0 1 2 3 _ _ _ _ (· = w.heap.size + 2) rfl)
theorem y_find (h : YR w0 O P M X T Q lim tk kn rs es ns fs G w) (htk : tk ≤ 100) (k : Nat) (hk : k < 18446744073709551616) (i : Int) (nd : Yp.Nd) (hs : Sel rs es ns k i nd) :
    Calls Tryz.prog 47 #[.pointer (some ⟨P, 0, none⟩), .int .u64 (k : Int)] w fun e w' => e = .returned (.tuple #[.int .i64 i, nd.v]) ∧ ∃ t, t ≤ 11 ∧ YR w0 O P M X T Q lim (tk + t) kn rs es ns fs G w' := by
  obtain ⟨O', hT, hC, hO⟩ := h
  refine (y_find_T hT htk k hk i nd hs).mono ?_
  rintro e w' ⟨he, t, ht, hy⟩
  exact ⟨he, t, ht, YR.trans hC hO hy⟩
end
end Go.Proofs.YtelfacchhclgnaaGreat
end
