/- A prefix is asked for by a step; its ends are put; how much more is needed; the texts walked. The longest prefix that is there is searched by halves; the text walked. -/
import Derived.Test.YtelfacchhclgnaaGreatMu13
section
namespace Go.Proofs.YtelfacchhclgnaaGreat
set_option maxRecDepth 20000
open Go.RowKit
set_option linter.unusedSectionVars false
variable [Gh]
theorem x_call (w : World) (g tk : Nat) (h : Mx w g tk) (ht : tk < 1000000) :
    Calls Tryz.prog 83 #[.pointer (some ⟨g, 0, none⟩)] w fun e w' => e = .returned (.tuple #[]) ∧ Mx w' g (tk + 1) ∧ K.Chg w w' (· = g) := by
  have hs : ∀ (w : World) (r c s p : Int), w.heap[g]? = some (.cells #[.int .i64 r, .int .i64 c, .int .i64 s, .int .i64 (tk : Int), .int .i64 p] 87 (0, 0)) → GR (tk + 1) r c → Calls Tryz.prog 117 #[.pointer (some ⟨g, 0, none⟩)] w fun e w' => e = .returned (.tuple #[]) ∧ Mx w' g (tk + 1) ∧ K.Chg w w' (· = g) := by
    intro w r c s p hr hgr
    have HGR := Lib.hid hgr
    clear hgr
    have hc := cell_of_row w g 3 _ _ (0, 0) hr
    have hf3 := frozen_of_row w g 3 _ _ hr
    simp at hc
    have h2 := row_set hr 3 (.int .i64 ((tk : Int) + 1))
    simp at h2
    have k3 := cell_of_row _ g 3 _ _ (0, 0) h2
    have k4 := cell_of_row _ g 4 _ _ (0, 0) h2
    have f4 := frozen_of_row _ g 4 _ _ h2
    simp at k3 k4
    have ws : IntKind.i64.wrap ((tk : Int) + 1) = (tk : Int) + 1 := IntWalk.i64_in _ (by omega)
    have H := Lib.hid h2
    clear hr h2
    go_enter Tryz.func117, Tryz.ntmps117
    go_wp2
    go_region
    go_end0
    refine ⟨rfl, ⟨r, c, s, max p ((tk : Int) + 1), (tk : Int) + 1, ?_, .inr ⟨by omega, rfl, HGR.out⟩⟩, ((chg_set w g 3 _ (· = g) rfl).same (chg_set _ g 4 _ (· = g) rfl)).drewN 1⟩
    have := row_set H.out 4 (.int .i64 (max p ((tk : Int) + 1)))
    simp at this
    exact this
  obtain ⟨r, c, s, p, t, hr, hg⟩ := h
  obtain ⟨rfl, hG⟩ : t = (tk : Int) ∧ GR tk r c := by
    rcases hg with ⟨h1, _⟩ | ⟨_, h1, h2⟩
    · omega
    · exact ⟨h1, h2⟩
  have hc := cell_of_row w g 1 _ _ (0, 0) hr
  have hf0 := frozen_of_row w g 1 _ _ hr
  simp at hc
  have h1 : (w.setCell ⟨g, 1, none⟩ (.int .i64 (wrap64 (c + 1)))).heap[g]? = some (.cells #[.int .i64 r, .int .i64 (wrap64 (c + 1)), .int .i64 s, .int .i64 (tk : Int), .int .i64 p] 87 (0, 0)) := by
    have := row_set hr 1 (.int .i64 (wrap64 (c + 1)))
    simpa using this
  have hsH := Lib.hid (hs _ r (wrap64 (c + 1)) s p h1 hG.call)
  clear hs hr hg h1 hG
  go_enter Tryz.func83, Tryz.ntmps83
  go_wp2_with (go_at_call 117; (with_reducible refine hsH.out.mono ?_); rintro e w2 ⟨rfl, hm2, hg2⟩; have hm2H := Lib.hid hm2; have hg2H := Lib.hid hg2; clear hm2 hg2)
  go_end0
  exact ⟨rfl, hm2H.out, (chg_set w g 1 _ (· = g) rfl).same hg2H.out⟩
theorem XT.mx {w : World} {X C Q M P lim tk : Nat} {L : LL} {es : Es} {O : Nat → Prop} (h : XT w X C Q M P lim tk L es O) : Mx w M tk ∧ O M := by
  obtain ⟨_, _, _, _, _, _, _, _, _, _, _, hb, rfl⟩ := h
  exact ⟨hb.mx, .inr (.inl rfl)⟩
theorem XT.met {w w' : World} {X C Q M P lim tk tk' : Nat} {L : LL} {es : Es} {O : Nat → Prop} (h : XT w X C Q M P lim tk L es O) (b : K.Chg w w' (· = M)) (hm : Mx w' M tk') : XT w' X C Q M P lim tk' L es O := by
  obtain ⟨_, _, _, _, _, _, _, _, _, _, _, hb, rfl⟩ := h
  exact ⟨_, _, _, _, _, _, _, _, _, _, _, hb.met b hm, rfl⟩
set_option maxHeartbeats 2000000 in
theorem x_ask (w : World) (X C Q M P lim tk : Nat) (L : LL) (es : Es) (O : Nat → Prop) (h : XT w X C Q M P lim tk L es O) (htk : tk < 1000000) (l p a b : Nat) (r : Bool) (hl : l < 256) (hv : Tells es l p a b r) (ha : a < 1048576) (hb : b < 1048576) :
    Calls Tryz.prog 132 #[.pointer (some ⟨X, 0, none⟩), kyv l p] w fun e w' => e = .returned (.tuple #[env a b, .bool r]) ∧ XR w O X C Q M P lim (tk + 1) L es w' := by
  obtain ⟨W0, hW0⟩ : ∃ W0, (w.alloc (keyo l p)).alloc (endo (.int .i64 0) (.int .i64 0)) = W0 := ⟨_, rfl⟩
  have hb0 : Below w.heap.size w W0 := by rw [← hW0]; exact ((Below.refl _ w).alloc (Nat.le_refl _) _).alloc (by simp) _
  have hz0 : W0.heap.size = w.heap.size + 2 := by rw [← hW0]; simp
  have r3 : W0.heap[w.heap.size]? = some (keyo l p) := by rw [← hW0]; exact (Below.heap_alloc _ _ _ (by simp)).trans (K.alloc_top _ _)
  have r4 : W0.heap[w.heap.size + 1]? = some (endo (.int .i64 0) (.int .i64 0)) := by
    rw [← hW0]
    have := K.alloc_top (w.alloc (keyo l p)) (endo (.int .i64 0) (.int .i64 0))
    rw [World.size_alloc] at this
    exact this
  have hlt := h.lt
  have h0 := h.chg (K.Chg.of_below (O := fun _ => False) hb0) (fun _ _ h => h)
  have c0 := h0.c0
  have hmx := Lib.hid (x_call W0 M tk h0.mx.1 htk)
  have H0 := Lib.hid h0
  have HLT := Lib.hid hlt
  have HB0 := Lib.hid hb0
  have R3 := Lib.hid r3
  have R4 := Lib.hid r4
  have HZ0 := Lib.hid hz0
  clear h hb0 hz0 r3 r4 hlt h0
  go_enter Tryz.func132, Tryz.ntmps132
  go_wp2_with (first
    | (go_at_call 83; (with_reducible refine hmx.out.mono ?_); rintro e w1 ⟨rfl, hm1, hc1⟩
       have h1 := H0.out.met hc1 hm1
       have hOM := HLT.out M H0.out.mx.2
       have hz := HZ0.out
       have z3 := (hc1.block w.heap.size (by omega) (fun e => by have e2 : w.heap.size = M := e; omega)).trans R3.out
       have z4 := (hc1.block (w.heap.size + 1) (by omega) (fun e => by have e2 : w.heap.size + 1 = M := e; omega)).trans R4.out
       have k0 : w1.cell? ⟨w.heap.size, 0, none⟩ = some (.int .u8 (l : Int)) := cell_of_row w1 _ 0 _ _ (0, 0) z3
       have k1 : w1.cell? ⟨w.heap.size, 1, none⟩ = some (.int .u64 (p : Int)) := cell_of_row w1 _ 1 _ _ (0, 0) z3
       have HP := Lib.hid (x_peek w1 X C Q M P lim (tk + 1) L es O h1 l p a b r hl hv ha hb)
       have HC1 := Lib.hid hc1
       have Z4 := Lib.hid z4
       clear hm1 hc1 h1 z3 z4 hOM hz)
    | (go_at_call 122; (with_reducible refine HP.out.mono ?_); rintro e w2 ⟨rfl, hx2⟩
       obtain ⟨O2, hT2, hC2, hI2⟩ := hx2
       have hz := HZ0.out
       have hs1 := HC1.out.size
       have hn : ¬ O (w.heap.size + 1) := fun hj => by have := HLT.out _ hj; omega
       have z4 := (hC2.block (w.heap.size + 1) (by omega) hn).trans Z4.out
       have f0 := frozen_of_row w2 _ 0 _ _ z4
       have f1 := frozen_of_row w2 _ 1 _ _ z4
       have k0 := cell_of_row w2 _ 0 _ _ (0, 0) z4
       have k1 := cell_of_row w2 _ 1 _ _ (0, 0) z4
       have HT2 := Lib.hid hT2
       have HC2 := Lib.hid hC2
       have HI2 := Lib.hid hI2
       have HN := Lib.hid hn
       have Z4' := Lib.hid z4
       clear hT2 hC2 hI2 z4 hz hs1 hn))
  have hrow := row_set (row_set Z4'.out 0 (.int .i64 (a : Int))) 1 (.int .i64 (b : Int))
  refine bodyPost_ret (ends_res2 rfl _ _ (w.heap.size + 1) _ _ _ rfl (by simpa using hrow) rfl) rfl ⟨rfl, ?_⟩
  have hset := (chg_set w2 (w.heap.size + 1) 0 (.int .i64 (a : Int)) (· = w.heap.size + 1) rfl).same (chg_set _ (w.heap.size + 1) 1 (.int .i64 (b : Int)) (· = w.heap.size + 1) rfl)
  have hz := HZ0.out
  have hs1 := HC1.out.size
  have hs2 := HC2.out.size
  refine ⟨O2, HT2.out.chg hset (fun j hj e => ?_), ?_, fun j hj => ?_⟩
  · have e2 : j = w.heap.size + 1 := e
    subst e2
    rcases HI2.out _ hj with h | h
    · exact HN.out h
    · omega
  · have c1 : K.Chg w w1 O := ((K.Chg.of_below (O := O) HB0.out).trans HC1.out (fun j e => .inl (by have e2 : j = M := e; subst e2; exact H0.out.mx.2)))
    exact (c1.same HC2.out).trans hset (fun j e => .inr (by have e2 : j = w.heap.size + 1 := e; omega))
  · rcases HI2.out j hj with h | h
    · exact .inl h
    · exact .inr (by omega)
set_option maxHeartbeats 2000000 in
theorem x_put (w : World) (X C Q M P lim tk : Nat) (L : LL) (es es' : Es) (O : Nat → Prop) (h : XT w X C Q M P lim tk L es O) (l p a b : Nat) (ha : a < 1048576) (hb : b < 1048576) (r : Bool)
    (hput : ∀ W Qt Mt seed n pr, Hs.Tab W P Qt Mt seed n es pr 0 → Calls Tryz.prog 94 #[.pointer (some ⟨P, 0, none⟩), kyv l p, .int .u64 ((a * 4294967296 + b : Nat) : Int)] W (Hs.PutP W P Qt Mt seed n es' 0 r)) :
    Calls Tryz.prog 151 #[.pointer (some ⟨X, 0, none⟩), kyv l p, env a b] w fun e w' => e = .returned (.tuple #[]) ∧ XR w O X C Q M P lim tk L es' w' := by
  obtain ⟨W0, hW0⟩ : ∃ W0, (w.alloc (keyo l p)).alloc (endo (.int .i64 (a : Int)) (.int .i64 (b : Int))) = W0 := ⟨_, rfl⟩
  have hb0 : Below w.heap.size w W0 := by rw [← hW0]; exact ((Below.refl _ w).alloc (Nat.le_refl _) _).alloc (by simp) _
  have hz0 : W0.heap.size = w.heap.size + 2 := by rw [← hW0]; simp
  have r3 : W0.heap[w.heap.size]? = some (keyo l p) := by rw [← hW0]; exact (Below.heap_alloc _ _ _ (by simp)).trans (K.alloc_top _ _)
  have r4 : W0.heap[w.heap.size + 1]? = some (endo (.int .i64 (a : Int)) (.int .i64 (b : Int))) := by
    rw [← hW0]
    have := K.alloc_top (w.alloc (keyo l p)) (endo (.int .i64 (a : Int)) (.int .i64 (b : Int)))
    rw [World.size_alloc] at this
    exact this
  have hlt := h.lt
  have h0 : XT W0.drew X C Q M P lim tk L es O := h.chg ((K.Chg.of_below (O := fun _ => False) hb0).drewN 1) (fun _ _ h => h)
  have hS0 : W0.drew.cell? ⟨X, 2, none⟩ = some (.pointer (some ⟨P, 0, none⟩)) ∧ W0.drew.cell? ⟨w.heap.size, 0, none⟩ = some (.int .u8 (l : Int)) ∧ W0.drew.cell? ⟨w.heap.size, 1, none⟩ = some (.int .u64 (p : Int)) ∧ W0.drew.cell? ⟨w.heap.size + 1, 0, none⟩ = some (.int .i64 (a : Int)) ∧ W0.drew.cell? ⟨w.heap.size + 1, 1, none⟩ = some (.int .i64 (b : Int)) :=
    ⟨h0.c2, cell_of_row W0 _ 0 _ _ (0, 0) r3, cell_of_row W0 _ 1 _ _ (0, 0) r3, cell_of_row W0 _ 0 _ _ (0, 0) r4, cell_of_row W0 _ 1 _ _ (0, 0) r4⟩
  have HS0 := Lib.hid hS0
  have hpk := fun W => Lib.hid (x_pack W a b ha hb)
  obtain ⟨v, hvv⟩ : ∃ v, a * 4294967296 + b = v := ⟨_, rfl⟩
  rw [hvv] at hpk hput
  have HPUT := Lib.hid hput
  have H0 := Lib.hid h0
  have HLT := Lib.hid hlt
  have HB0 := Lib.hid hb0
  have R3 := Lib.hid r3
  have R4 := Lib.hid r4
  have HZ0 := Lib.hid hz0
  clear h hb0 hz0 r3 r4 hlt h0 hS0 hvv hput
  go_enter Tryz.func151, Tryz.ntmps151
  go_wp2
  go_region_held3 (fun Y => Y.cell? ⟨X, 2, none⟩ = some (.pointer (some ⟨P, 0, none⟩)) ∧ Y.cell? ⟨w.heap.size, 0, none⟩ = some (.int .u8 (l : Int)) ∧ Y.cell? ⟨w.heap.size, 1, none⟩ = some (.int .u64 (p : Int)) ∧ Y.cell? ⟨w.heap.size + 1, 0, none⟩ = some (.int .i64 (a : Int)) ∧ Y.cell? ⟨w.heap.size + 1, 1, none⟩ = some (.int .i64 (b : Int))) (first | (with_reducible exact HS0.out) | (with_reducible exact HS1.out) | (with_reducible exact HS2.out) | go_keep) (first
    | (go_at_call 162; (with_reducible refine (hpk _).out.mono ?_); rintro e w1 ⟨rfl, hb1⟩
       have hz : W0.drew.heap.size = w.heap.size + 2 := HZ0.out
       have h1 := H0.out.chg (K.Chg.of_below (O := fun _ => False) hb1) (fun _ _ h => h)
       have z3 := (hb1.block w.heap.size (by omega)).trans R3.out
       have z4 := (hb1.block (w.heap.size + 1) (by omega)).trans R4.out
       have hS1 : w1.cell? ⟨X, 2, none⟩ = some (.pointer (some ⟨P, 0, none⟩)) ∧ w1.cell? ⟨w.heap.size, 0, none⟩ = some (.int .u8 (l : Int)) ∧ w1.cell? ⟨w.heap.size, 1, none⟩ = some (.int .u64 (p : Int)) ∧ w1.cell? ⟨w.heap.size + 1, 0, none⟩ = some (.int .i64 (a : Int)) ∧ w1.cell? ⟨w.heap.size + 1, 1, none⟩ = some (.int .i64 (b : Int)) :=
         ⟨h1.c2, cell_of_row w1 _ 0 _ _ (0, 0) z3, cell_of_row w1 _ 1 _ _ (0, 0) z3, cell_of_row w1 _ 0 _ _ (0, 0) z4, cell_of_row w1 _ 1 _ _ (0, 0) z4⟩
       have HS1 := Lib.hid hS1
       obtain ⟨seed, An, cn, Af, cf, ns, fs, Qt, Mt, n, pr, hx, hO⟩ := h1
       have HPC := Lib.hid (HPUT.out w1 Qt Mt seed n pr hx.tab)
       have HX1 := Lib.hid hx
       have HO := Lib.hid hO
       have HB1 := Lib.hid hb1
       have Z3 := Lib.hid z3
       have Z4 := Lib.hid z4
       clear hb1 z3 z4 hS1 hx hO hz)
    | (go_at_call 94; (with_reducible refine HPC.out.mono ?_); rintro e w2 ⟨rfl, ht⟩
       obtain ⟨Qt', n', pr', hx2, hc2, hq2⟩ := HX1.out.tabs ht
       have hz : W0.heap.size = w.heap.size + 2 := HZ0.out
       have hs1 : W0.heap.size ≤ w1.heap.size := HB1.out.size
       have hn : ∀ g, w.heap.size ≤ g → ¬ Hs.TF P Qt Mt g := fun g hg hj => by
         have h1 : O g := by rw [HO.out]; exact .inr (.inr (.inr hj))
         have := HLT.out g h1
         omega
       have z3 := (hc2.block w.heap.size (by omega) (hn _ (Nat.le_refl _))).trans Z3.out
       have z4 := (hc2.block (w.heap.size + 1) (by omega) (hn _ (by omega))).trans Z4.out
       have hS2 : w2.cell? ⟨X, 2, none⟩ = some (.pointer (some ⟨P, 0, none⟩)) ∧ w2.cell? ⟨w.heap.size, 0, none⟩ = some (.int .u8 (l : Int)) ∧ w2.cell? ⟨w.heap.size, 1, none⟩ = some (.int .u64 (p : Int)) ∧ w2.cell? ⟨w.heap.size + 1, 0, none⟩ = some (.int .i64 (a : Int)) ∧ w2.cell? ⟨w.heap.size + 1, 1, none⟩ = some (.int .i64 (b : Int)) :=
         ⟨cell_of_row w2 X 2 _ _ (0, 0) hx2.row, cell_of_row w2 _ 0 _ _ (0, 0) z3, cell_of_row w2 _ 1 _ _ (0, 0) z3, cell_of_row w2 _ 0 _ _ (0, 0) z4, cell_of_row w2 _ 1 _ _ (0, 0) z4⟩
       have HS2 := Lib.hid hS2
       have HX2 := Lib.hid hx2
       have HC2 := Lib.hid hc2
       have HQ2 := Lib.hid hq2
       clear ht hx2 hc2 hq2 hz hs1 hn z3 z4 hS2))
  all_goals
    go_wp2
    go_end0
    have hz := HZ0.out
    have hs1 : W0.heap.size ≤ w1.heap.size := HB1.out.size
    refine ⟨rfl, _, ⟨seed, An, cn, Af, cf, ns, fs, Qt', Mt, n', pr', HX2.out, rfl⟩, ?_, fun j hj => ?_⟩
    · have c1 : K.Chg w w1 O := ((K.Chg.of_below (O := O) HB0.out).drewN 1).same (K.Chg.of_below HB1.out)
      exact c1.trans HC2.out (fun j hj => .inl (by rw [HO.out]; exact .inr (.inr (.inr hj))))
    · rw [HO.out]
      rcases hj with e | e | hj | (e | e | e)
      · exact .inl (.inl e)
      · exact .inl (.inr (.inl e))
      · exact .inl (.inr (.inr (.inl hj)))
      · exact .inl (.inr (.inr (.inr (.inl e))))
      · rcases HQ2.out with h | h
        · exact .inl (.inr (.inr (.inr (.inr (.inl (by omega))))))
        · exact .inr (by omega)
      · exact .inl (.inr (.inr (.inr (.inr (.inr e)))))
abbrev spv (s : Int) (a b : Nat) : Value := .agg #[.int .i64 s, .int .i64 (a : Int), .int .i64 (b : Int)]
abbrev spo (s : Int) (a b : Nat) : Obj := .cells #[.int .i64 s, .int .i64 (a : Int), .int .i64 (b : Int)] 163
theorem x_needs (w : World) (c a b : Nat) (hc : c ≤ 65) :
    Calls Tryz.prog 123 #[spv ((c : Int) - 1) a b] w fun e w' => e = .returned (.int .i64 ((if c = 65 then 0 else 66 - c : Nat) : Int)) ∧ Below w.heap.size w w' := by
  by_cases h : c = 65
  · subst h
    rw [if_pos rfl]
    go_enter Tryz.func123, Tryz.ntmps123
    go_wp2
    go_ret
    exact ⟨rfl, (Below.refl _ w).alloc (Nat.le_refl _) _⟩
  · rw [if_neg h]
    obtain ⟨s, hs⟩ : ∃ s : Int, (c : Int) - 1 = s := ⟨_, rfl⟩
    have g0 : (s == 64) = false := by rw [beq_eq_false_iff_ne]; omega
    have w1 : IntKind.i64.wrap (64 - s) = 64 - s := IntWalk.i64_in _ (by omega)
    have w2 : IntKind.i64.wrap (64 - s + 1) = ((66 - c : Nat) : Int) := by rw [IntWalk.i64_in _ (by omega)]; omega
    rw [hs]
    clear hs h
    generalize 66 - c = r at *
    go_enter Tryz.func123, Tryz.ntmps123
    go_wp2
    go_ret
    exact ⟨rfl, (Below.refl _ w).alloc (Nat.le_refl _) _⟩
end Go.Proofs.YtelfacchhclgnaaGreat
end
section
namespace Go.Proofs.YtelfacchhclgnaaGreat
set_option maxRecDepth 20000
open Go.RowKit
set_option linter.unusedSectionVars false
variable [Gh]
namespace X
theorem tells_of {l0 : Nat} {L L' : LL} {es : Es} (h : TE l0 L L' es) {l p : Nat} (hl : l ≤ 64) {S : LL} (hS : sg (if l < l0 then L' else L) l p = S) : Tells es l p (fst' S) (lst' S) (decide (S ≠ [])) := by
  subst hS
  by_cases hn : sg (if l < l0 then L' else L) l p = []
  · rw [hn]
    exact .inr ⟨rfl, rfl, rfl, h.no hn⟩
  · rw [decide_eq_true hn]
    exact .inl ⟨rfl, h.yes hl hn⟩
theorem fst_lt {L : LL} (hp : ∀ x ∈ L, x.1 < 1048576) (l p : Nat) : fst' (sg L l p) < 1048576 := by
  rcases Classical.em (sg L l p = []) with h | h
  · rw [h]; decide
  · obtain ⟨x, hx, e⟩ := fst_mem h
    rw [e]
    exact hp x (sg_sub hx)
theorem lst_lt {L : LL} (hp : ∀ x ∈ L, x.1 < 1048576) (l p : Nat) : lst' (sg L l p) < 1048576 := by
  rcases Classical.em (sg L l p = []) with h | h
  · rw [h]; decide
  · obtain ⟨x, hx, e⟩ := lst_mem' h
    rw [e]
    exact hp x (sg_sub hx)
/-- The links with the longest prefix but one that isn't there. -/
def spl (L : LL) (k a : Nat) : LL := if a = 0 then [] else sg L (a - 1) (pf (a - 1) k)
theorem pow_half (x t : Nat) (h : x < 2 ^ (7 - t)) (hx : 0 < x) : t < 7 ∧ x / 2 < 2 ^ (7 - (t + 1)) := by
  have ht : t < 7 := by
    rcases Nat.lt_or_ge t 7 with h1 | h1
    · exact h1
    · rw [show 7 - t = 0 by omega] at h
      simp at h
      omega
  refine ⟨ht, ?_⟩
  rw [show 7 - t = (7 - (t + 1)) + 1 by omega, Nat.pow_succ] at h
  omega
end X
theorem spo_cells {w : World} {g : Nat} {s : Int} {a b : Nat} (h : w.heap[g]? = some (spo s a b)) : w.cell? ⟨g, 0, none⟩ = some (.int .i64 s) ∧ w.cell? ⟨g, 1, none⟩ = some (.int .i64 (a : Int)) ∧ w.cell? ⟨g, 2, none⟩ = some (.int .i64 (b : Int)) :=
  ⟨cell_of_row w g 0 _ _ (0, 0) h, cell_of_row w g 1 _ _ (0, 0) h, cell_of_row w g 2 _ _ (0, 0) h⟩
theorem spot_res {fn : Func} {u : Tmp} (h : fn.results = #[.cell u 163]) (tmps : Array Value) (w : World) (g : Nat) (a b c : Value) (hu : tmps.getD u undef = .pointer (some ⟨g, 0, none⟩))
    (hc : w.heap[g]? = some (.cells #[a, b, c] 163 (0, 0))) : (results fn tmps).run Tryz.prog w = .ok (.agg #[a, b, c]) w := by
  have hp' : tmps[u]?.getD undef = .pointer (some ⟨g, 0, none⟩) := by simpa using hu
  have hr := run_loadVar_row (P := Tryz.prog) w g 163 163 _ (0, 0) _ hc Tryz.underlying163 (by kernel_rfl) (by kernel_rfl)
  simp [results, h, hp', asAddr, hr]
theorem chg3 (w : World) (g : Nat) (a b c : Value) : K.Chg w (((w.setCell ⟨g, 0, none⟩ a).setCell ⟨g, 1, none⟩ b).setCell ⟨g, 2, none⟩ c) (· = g) := ((chg_set w g 0 a (· = g) rfl).same (chg_set _ g 1 b (· = g) rfl)).same (chg_set _ g 2 c (· = g) rfl)
theorem row3 {w : World} {g : Nat} {z0 z1 z2 : Value} {T : TypeId} (h : w.heap[g]? = some (.cells #[z0, z1, z2] T (0, 0))) (a b c : Value) : (((w.setCell ⟨g, 0, none⟩ a).setCell ⟨g, 1, none⟩ b).setCell ⟨g, 2, none⟩ c).heap[g]? = some (.cells #[a, b, c] T (0, 0)) := by
  have := row_set (row_set (row_set h 0 a) 1 b) 2 c
  simpa using this
abbrev askv (Xb : Nat) : Value := .func (.func 132) #[.pointer (some ⟨Xb, 0, none⟩)] #[]
set_option maxHeartbeats 4000000 in
theorem x_search (w : World) (Xb C Q M P lim tk : Nat) (L : LL) (es : Es) (O : Nat → Prop) (h : XT w Xb C Q M P lim tk L es O) (htk : tk < 900000) (hTE : X.TE 0 L L es) (hp : ∀ x ∈ L, x.1 < 1048576) (k : Nat) :
    Calls Tryz.prog 121 #[.pointer (some ⟨Xb, 0, none⟩), .int .u64 (k : Int), askv Xb] w fun e w' => e = .returned (spv ((X.sc L k : Int) - 1) (X.fst' (X.spl L k (X.sc L k))) (X.lst' (X.spl L k (X.sc L k)))) ∧ ∃ t, t ≤ 7 ∧ XR w O Xb C Q M P lim (tk + t) L es w' := by
  obtain ⟨W0, hW0⟩ : ∃ W0, (w.alloc (.cells #[.int .i64 0, .int .i64 0, .int .i64 0] 163)).alloc (.cells #[.int .i64 (-1), .int .i64 0, .int .i64 0] 163) = W0 := ⟨_, rfl⟩
  have hb0 : Below w.heap.size w W0 := by rw [← hW0]; exact ((Below.refl _ w).alloc (Nat.le_refl _) _).alloc (by simp) _
  have hz0 : W0.heap.size = w.heap.size + 2 := by rw [← hW0]; simp
  have r6 : W0.heap[w.heap.size]? = some (spo 0 0 0) := by rw [← hW0]; exact (Below.heap_alloc _ _ _ (by simp)).trans (K.alloc_top _ _)
  have r7 : W0.heap[w.heap.size + 1]? = some (spo (-1) 0 0) := by
    rw [← hW0]
    have := K.alloc_top (w.alloc (.cells #[.int .i64 0, .int .i64 0, .int .i64 0] 163)) (.cells #[.int .i64 (-1), .int .i64 0, .int .i64 0] 163)
    rw [World.size_alloc] at this
    exact this
  have hlt := h.lt
  have h0 := h.chg (K.Chg.of_below (O := fun _ => False) hb0) (fun _ _ h => h)
  have hc65 := X.sc_le L k
  obtain ⟨c, hc⟩ : ∃ c, X.sc L k = c := ⟨_, rfl⟩
  have HC := Lib.hid hc
  rw [hc] at hc65 ⊢
  have H0 := Lib.hid h0
  have HLT := Lib.hid hlt
  have HB0 := Lib.hid hb0
  have R6 := Lib.hid r6
  have R7 := Lib.hid r7
  have HZ0 := Lib.hid hz0
  have HTE := Lib.hid hTE
  have HP := Lib.hid hp
  have HW0 := Lib.hid hW0
  clear hW0
  clear h hb0 r6 r7 hlt h0 hc hTE hp hz0
  go_enter Tryz.func121, Tryz.ntmps121
  go_wp2
  rw [HW0.out]
  go_loopw [8] (fun bv wr => ∃ (a b t : Nat) (O' : Nat → Prop), bv = .int .i64 (b : Int) ∧ a ≤ c ∧ c ≤ b ∧ b ≤ 65 ∧ t ≤ 7 ∧ Hid (b - a < 2 ^ (7 - t)) ∧ Hid (XT wr Xb C Q M P lim (tk + t) L es O') ∧ Hid (K.Chg W0 wr (fun j => O j ∨ j = w.heap.size + 1)) ∧ Hid (∀ j, O' j → O j ∨ W0.heap.size ≤ j) ∧ Hid (wr.heap[w.heap.size + 1]? = some (spo ((a : Int) - 1) (X.fst' (X.spl L k a)) (X.lst' (X.spl L k a)))))
    (fun bv wr => match wr.cell? ⟨w.heap.size + 1, 0, none⟩ with | some (.int _ s) => (intOf bv - s).toNat | _ => 0)
  case atStart => exact ⟨0, 65, 0, O, rfl, by omega, hc65, by omega, by omega, Lib.hid (by decide), H0, Lib.hid (chg_refl W0 _), Lib.hid (fun j hj => .inl hj), R7⟩
  case round =>
    obtain ⟨a, b, t, O', rfl, hac, hcb, hb, ht, hgap, hT, hCh, hI, hR⟩ := hrel
    have hz := HZ0.out
    have hcs := hCh.out.size
    obtain ⟨k0, k1, k2⟩ := spo_cells hR.out
    have f0 := frozen_of_row wr _ 0 _ _ hR.out
    have f1 := frozen_of_row wr _ 1 _ _ hR.out
    have f2 := frozen_of_row wr _ 2 _ _ hR.out
    have hO7 : ¬ O' (w.heap.size + 1) := fun hj => by
      rcases hI.out _ hj with h | h
      · have := HLT.out _ h; omega
      · omega
    obtain ⟨s, hs⟩ : ∃ s : Int, (a : Int) - 1 = s := ⟨_, rfl⟩
    rw [hs] at k0
    have w1 : IntKind.i64.wrap ((b : Int) - s) = (b : Int) - s := IntWalk.i64_in _ (by omega)
    generalize hf1 : X.fst' (X.spl L k a) = e1 at *
    generalize hf2 : X.lst' (X.spl L k a) = e2 at *
    have HS := Lib.hid hs
    rcases Nat.lt_or_ge a b with hab | hab
    · have g1 : decide ((1 : Int) < (b : Int) - s) = true := decide_eq_true (by omega)
      obtain ⟨m, hm⟩ : ∃ m, (a + b - 1) / 2 = m := ⟨_, rfl⟩
      have w2 : IntKind.i64.wrap (s + (b : Int)) = s + (b : Int) := IntWalk.i64_in _ (by omega)
      have w3 : (s + (b : Int)) / 2 = (m : Int) := by omega
      have w4 : (s + (b : Int)).tdiv 2 = (m : Int) := by rw [Int.tdiv_eq_ediv_of_nonneg (by omega)]; exact w3
      have w5 : IntKind.i64.wrap (m : Int) = (m : Int) := IntWalk.i64_in _ (by omega)
      have hm1 : a ≤ m ∧ m < b := by omega
      have hm64 : m ≤ 64 := by omega
      have hpre := fun W => Lib.hid (x_prefix W k m hm64)
      have hpw := X.pow_half (b - a) t hgap.out (by omega)
      have hgm : Hid (b - (m + 1) < 2 ^ (7 - (t + 1)) ∧ m - a < 2 ^ (7 - (t + 1))) := Lib.hid (by constructor <;> omega)
      have ht7 := hpw.1
      have hte := X.tells_of HTE.out (l := m) (p := X.pf m k) hm64 (S := X.sg L m (X.pf m k)) (by simp)
      have ha1 := X.fst_lt HP.out m (X.pf m k)
      have ha2 := X.lst_lt HP.out m (X.pf m k)
      have hask := fun W (hW : XT W Xb C Q M P lim (tk + t) L es O') => Lib.hid (x_ask W Xb C Q M P lim (tk + t) L es O' hW (by omega) m (X.pf m k) _ _ _ (by omega) hte ha1 ha2)
      clear hpw hm hs
      obtain ⟨x1, hx1⟩ : ∃ x1, X.fst' (X.sg L m (X.pf m k)) = x1 := ⟨_, rfl⟩
      obtain ⟨x2, hx2⟩ : ∃ x2, X.lst' (X.sg L m (X.pf m k)) = x2 := ⟨_, rfl⟩
      have HX12 := Lib.hid (And.intro hx1 hx2)
      rw [hx1, hx2] at hask
      have HFIN : Hid (∀ (Wa Wb : World) (O2 : Nat → Prop), XT Wa Xb C Q M P lim (tk + (t + 1)) L es O2 → K.Chg wr Wa (fun _ => False) ∨ True → True) := Lib.hid (fun _ _ _ _ _ => trivial)
      clear HFIN
      by_cases hin : m < c
      · have hne : X.sg L m (X.pf m k) ≠ [] := X.sc_yes (by rw [HC.out]; exact hin)
        have hspl : X.spl L k (m + 1) = X.sg L m (X.pf m k) := by unfold X.spl; rw [if_neg (by omega), Nat.add_sub_cancel]
        have HSPL := Lib.hid hspl
        rw [decide_eq_true hne] at hask
        clear hne hspl hte hx1 hx2 ha1 ha2
        generalize X.pf m k = q at *
        go_wp2_with (first
          | (go_at_call 137; (with_reducible refine (hpre _).out.mono ?_); rintro e w2 ⟨rfl, hb2⟩
             have h2 := hT.out.chg (K.Chg.of_below (O := fun _ => False) hb2) (fun _ _ h => h)
             have HA := Lib.hid ((hask w2 h2).out)
             have HB2 := Lib.hid hb2
             clear hb2 h2)
          | (go_at_call 132; (with_reducible refine HA.out.mono ?_); rintro e w3 ⟨rfl, O3, hT3, hC3, hI3⟩
             have hs2 := HB2.out.size
             have hs3 := hC3.size
             have hz := HZ0.out
             have z7 := (hC3.block (w.heap.size + 1) (by omega) hO7).trans ((HB2.out.block (w.heap.size + 1) (row_lt hR.out)).trans hR.out)
             have z7' : (w3.alloc (endo (.int .i64 (x1 : Int)) (.int .i64 (x2 : Int)))).heap[w.heap.size + 1]? = some (spo s e1 e2) := (Below.heap_alloc _ _ _ (row_lt z7)).trans (by rw [z7, HS.out])
             have n3 : ¬ O3 (w.heap.size + 1) := fun hj => by
               rcases hI3 _ hj with h | h
               · exact hO7 h
               · omega
             have y0 := frozen_of_row _ _ 0 _ _ z7'
             have y1 := frozen_of_row _ _ 1 _ _ z7'
             have y2 := frozen_of_row _ _ 2 _ _ z7'
             obtain ⟨v0, v1, v2⟩ := spo_cells z7'
             have hT3' := hT3.chg (chg_alloc w3 (endo (.int .i64 (x1 : Int)) (.int .i64 (x2 : Int))) (fun _ => False)) (fun _ _ h => h)
             have hC3' : K.Chg W0 (w3.alloc (endo (.int .i64 (x1 : Int)) (.int .i64 (x2 : Int)))) (fun j => O j ∨ j = w.heap.size + 1) := ((hCh.out.same (K.Chg.of_below HB2.out)).trans hC3 (fun j hj => (hI.out j hj).imp .inl id)).same (chg_alloc _ _ _)
             have HT3 := Lib.hid hT3'
             have HC3 := Lib.hid hC3'
             have HI3 : Hid (∀ j, O3 j → O j ∨ W0.heap.size ≤ j) := Lib.hid (fun j hj => by
               rcases hI3 j hj with h | h
               · exact hI.out j h
               · exact .inr (by omega))
             have HR3 := Lib.hid z7'
             have HN3 := Lib.hid n3
             clear hT3 hC3 hI3 z7 z7' n3 hs2 hs3 hz hT3' hC3'))
        have hz := HZ0.out
        have hset := chg3 (w3.alloc (endo (.int .i64 (x1 : Int)) (.int .i64 (x2 : Int)))) (w.heap.size + 1) (.int .i64 (m : Int)) (.int .i64 (x1 : Int)) (.int .i64 (x2 : Int))
        have hrow := row3 (w := w3.alloc (endo (.int .i64 (x1 : Int)) (.int .i64 (x2 : Int)))) HR3.out (.int .i64 (m : Int)) (.int .i64 (x1 : Int)) (.int .i64 (x2 : Int))
        have hT4 := HT3.out.chg hset (fun j hj e => by have e2 : j = w.heap.size + 1 := e; subst e2; exact HN3.out hj)
        have hC4 := HC3.out.trans hset (fun j e => .inl (.inr e))
        have hk0 : ((((w3.alloc (endo (.int .i64 (x1 : Int)) (.int .i64 (x2 : Int)))).setCell ⟨w.heap.size + 1, 0, none⟩ (.int .i64 (m : Int))).setCell ⟨w.heap.size + 1, 1, none⟩ (.int .i64 (x1 : Int))).setCell ⟨w.heap.size + 1, 2, none⟩ (.int .i64 (x2 : Int))).cell? ⟨w.heap.size + 1, 0, none⟩ = some (.int .i64 (m : Int)) := cell_of_row _ _ 0 _ _ (0, 0) hrow
        have HT4 := Lib.hid hT4
        have HC4 := Lib.hid hC4
        have HROW := Lib.hid hrow
        clear hrow hT4 hC4 hset
        go_roundw
        case rel =>
          refine ⟨m + 1, b, t + 1, O3, rfl, by omega, hcb, hb, by omega, Lib.hid hgm.out.1, HT4, HC4, HI3, Lib.hid ?_⟩
          rw [HSPL.out, HX12.out.1, HX12.out.2, show ((m + 1 : Nat) : Int) - 1 = (m : Int) by omega]
          exact HROW.out
        case measure =>
          rw [hk0, k0]
          have := HS.out
          simp only [intOf]
          omega
      · have hne : X.sg L m (X.pf m k) = [] := X.sc_no (by rw [HC.out]; omega) hm64
        rw [decide_eq_false (fun h => h hne)] at hask
        clear hne hte hx1 hx2 ha1 ha2
        generalize X.pf m k = q at *
        go_wp2_with (first
          | (go_at_call 137; (with_reducible refine (hpre _).out.mono ?_); rintro e w2 ⟨rfl, hb2⟩
             have h2 := hT.out.chg (K.Chg.of_below (O := fun _ => False) hb2) (fun _ _ h => h)
             have HA := Lib.hid ((hask w2 h2).out)
             have HB2 := Lib.hid hb2
             clear hb2 h2)
          | (go_at_call 132; (with_reducible refine HA.out.mono ?_); rintro e w3 ⟨rfl, O3, hT3, hC3, hI3⟩
             have hs2 := HB2.out.size
             have hs3 := hC3.size
             have hz := HZ0.out
             have z7 := (hC3.block (w.heap.size + 1) (by omega) hO7).trans ((HB2.out.block (w.heap.size + 1) (row_lt hR.out)).trans hR.out)
             have z7' : (w3.alloc (endo (.int .i64 (x1 : Int)) (.int .i64 (x2 : Int)))).heap[w.heap.size + 1]? = some (spo s e1 e2) := (Below.heap_alloc _ _ _ (row_lt z7)).trans (by rw [z7, HS.out])
             have n3 : ¬ O3 (w.heap.size + 1) := fun hj => by
               rcases hI3 _ hj with h | h
               · exact hO7 h
               · omega
             have y0 := frozen_of_row _ _ 0 _ _ z7'
             have y1 := frozen_of_row _ _ 1 _ _ z7'
             have y2 := frozen_of_row _ _ 2 _ _ z7'
             obtain ⟨v0, v1, v2⟩ := spo_cells z7'
             have hT3' := hT3.chg (chg_alloc w3 (endo (.int .i64 (x1 : Int)) (.int .i64 (x2 : Int))) (fun _ => False)) (fun _ _ h => h)
             have hC3' : K.Chg W0 (w3.alloc (endo (.int .i64 (x1 : Int)) (.int .i64 (x2 : Int)))) (fun j => O j ∨ j = w.heap.size + 1) := ((hCh.out.same (K.Chg.of_below HB2.out)).trans hC3 (fun j hj => (hI.out j hj).imp .inl id)).same (chg_alloc _ _ _)
             have HT3 := Lib.hid hT3'
             have HC3 := Lib.hid hC3'
             have HI3 : Hid (∀ j, O3 j → O j ∨ W0.heap.size ≤ j) := Lib.hid (fun j hj => by
               rcases hI3 j hj with h | h
               · exact hI.out j h
               · exact .inr (by omega))
             have HR3 := Lib.hid z7'
             have HN3 := Lib.hid n3
             clear hT3 hC3 hI3 z7 z7' n3 hs2 hs3 hz hT3' hC3'))
        have hk0 := cell_of_row _ _ 0 _ _ (0, 0) HR3.out
        have HS2 := HS.out
        go_roundw
        case rel =>
          refine ⟨a, m, t + 1, O3, rfl, hac, by omega, by omega, by omega, Lib.hid hgm.out.2, HT3, HC3, HI3, Lib.hid ?_⟩
          rw [hf1, hf2, HS.out]
          exact HR3.out
        case measure =>
          rw [k0, show (w3.alloc (endo (.int .i64 (x1 : Int)) (.int .i64 (x2 : Int)))).cell? ⟨w.heap.size + 1, 0, none⟩ = some (.int .i64 s) from hk0]
          simp only [intOf]
          omega
    · have hca : c = a := by omega
      have g1 : decide ((1 : Int) < (b : Int) - s) = false := decide_eq_false (by omega)
      have hn6 : w.heap.size ≠ w.heap.size + 1 := by omega
      have hO6 : ¬ (O w.heap.size ∨ w.heap.size = w.heap.size + 1) := fun h => by
        rcases h with h | h
        · have := HLT.out _ h; omega
        · omega
      have z6 := (hCh.out.block w.heap.size (by omega) hO6).trans R6.out
      have y0 := frozen_of_row wr _ 0 _ _ z6
      have y1 := frozen_of_row wr _ 1 _ _ z6
      have y2 := frozen_of_row wr _ 2 _ _ z6
      obtain ⟨v0, v1, v2⟩ := spo_cells z6
      have Z6 := Lib.hid z6
      have hO6' : ¬ O' w.heap.size := fun hj => by
        rcases hI.out _ hj with h | h
        · exact hO6 (.inl h)
        · omega
      have HO6 := Lib.hid hO6'
      have HCA := Lib.hid hca
      clear hs hca z6
      go_wp2
      have hset := chg3 wr w.heap.size (.int .i64 s) (.int .i64 (e1 : Int)) (.int .i64 (e2 : Int))
      have hrow := row3 Z6.out (.int .i64 s) (.int .i64 (e1 : Int)) (.int .i64 (e2 : Int))
      refine bodyPost_ret (spot_res rfl _ _ w.heap.size _ _ _ rfl hrow) rfl ⟨?_, t, ht, O', hT.out.chg hset (fun j hj e => by have e3 : j = w.heap.size := e; subst e3; exact HO6.out hj), ?_, fun j hj => ?_⟩
      · rw [HCA.out, hf1, hf2, HS.out]
      · have c1 := (K.Chg.of_below (O := O) HB0.out).trans hCh.out (fun j hj => hj.imp id (fun e => by omega))
        exact c1.trans hset (fun j e => .inr (by have e3 : j = w.heap.size := e; omega))
      · rcases hI.out j hj with h | h
        · exact .inl h
        · exact .inr (by omega)
end Go.Proofs.YtelfacchhclgnaaGreat
end
