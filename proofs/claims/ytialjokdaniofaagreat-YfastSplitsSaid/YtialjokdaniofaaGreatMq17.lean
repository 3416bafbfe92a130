/- A prefix is asked for by a step; its ends are put; how much more is needed; the texts walked. -/
import Derived.Test.YtialjokdaniofaaGreatMq16
namespace Go.Proofs.YtialjokdaniofaaGreat
set_option maxRecDepth 20000
open Go.RowKit
set_option linter.unusedSectionVars false
variable [Gh]
theorem x_call (w : World) (g tk : Nat) (h : Mx w g tk) (ht : tk < 1000000) :
    Calls Tryz.prog 83 #[.pointer (some ⟨g, 0, none⟩)] w fun e w' => e = .returned (.tuple #[]) ∧ Mx w' g (tk + 1) ∧ K.Chg w w' (· = g) := by
  have hs : ∀ (w : World) (r c s p : Int), w.heap[g]? = some (.cells #[.int .i64 r, .int .i64 c, .int .i64 s, .int .i64 (tk : Int), .int .i64 p] 87 (0, 0)) → GR (tk + 1) r c → Calls Tryz.prog 117 #[.pointer (some ⟨g, 0, none⟩)] w fun e w' => e = .returned (.tuple #[]) ∧ Mx w' g (tk + 1) ∧ K.Chg w w' (· = g) := by
    intro w r c s p hr hgr
    have HGR := Lib.hid hgr
    clear hgr
    have hc := cell_of_row w g 3 _ _ (0, 0) hr
    have hf3 := frozen_of_row w g 3 _ _ hr
    simp at hc
    have h2 := row_set hr 3 (.int .i64 ((tk : Int) + 1))
    simp at h2
    have k3 := cell_of_row _ g 3 _ _ (0, 0) h2
    have k4 := cell_of_row _ g 4 _ _ (0, 0) h2
    have f4 := frozen_of_row _ g 4 _ _ h2
    simp at k3 k4
    have ws : IntKind.i64.wrap ((tk : Int) + 1) = (tk : Int) + 1 := IntWalk.i64_in _ (by omega)
    have H := Lib.hid h2
    clear hr h2
    go_enter Tryz.func117, Tryz.ntmps117
    go_wp2
    go_region
    go_end0
    refine ⟨rfl, ⟨r, c, s, max p ((tk : Int) + 1), (tk : Int) + 1, ?_, .inr ⟨by omega, rfl, HGR.out⟩⟩, ((chg_set w g 3 _ (· = g) rfl).same (chg_set _ g 4 _ (· = g) rfl)).drewN 1⟩
    have := row_set H.out 4 (.int .i64 (max p ((tk : Int) + 1)))
    simp at this
    exact this
  obtain ⟨r, c, s, p, t, hr, hg⟩ := h
  obtain ⟨rfl, hG⟩ : t = (tk : Int) ∧ GR tk r c := by
    rcases hg with ⟨h1, _⟩ | ⟨_, h1, h2⟩
    · omega
    · exact ⟨h1, h2⟩
  have hc := cell_of_row w g 1 _ _ (0, 0) hr
  have hf0 := frozen_of_row w g 1 _ _ hr
  simp at hc
  have h1 : (w.setCell ⟨g, 1, none⟩ (.int .i64 (wrap64 (c + 1)))).heap[g]? = some (.cells #[.int .i64 r, .int .i64 (wrap64 (c + 1)), .int .i64 s, .int .i64 (tk : Int), .int .i64 p] 87 (0, 0)) := by
    have := row_set hr 1 (.int .i64 (wrap64 (c + 1)))
    simpa using this
  have hsH := Lib.hid (hs _ r (wrap64 (c + 1)) s p h1 hG.call)
  clear hs hr hg h1 hG
  go_enter Tryz.func83, Tryz.ntmps83
  go_wp2_with (go_at_call 117; (with_reducible refine hsH.out.mono ?_); rintro e w2 ⟨rfl, hm2, hg2⟩; have hm2H := Lib.hid hm2; have hg2H := Lib.hid hg2; clear hm2 hg2)
  go_end0
  exact ⟨rfl, hm2H.out, (chg_set w g 1 _ (· = g) rfl).same hg2H.out⟩
theorem XT.mx {w : World} {X C Q M P lim tk : Nat} {L : LL} {es : Es} {O : Nat → Prop} (h : XT w X C Q M P lim tk L es O) : Mx w M tk ∧ O M := by
  obtain ⟨_, _, _, _, _, _, _, _, _, _, _, hb, rfl⟩ := h
  exact ⟨hb.mx, .inr (.inl rfl)⟩
theorem XT.met {w w' : World} {X C Q M P lim tk tk' : Nat} {L : LL} {es : Es} {O : Nat → Prop} (h : XT w X C Q M P lim tk L es O) (b : K.Chg w w' (· = M)) (hm : Mx w' M tk') : XT w' X C Q M P lim tk' L es O := by
  obtain ⟨_, _, _, _, _, _, _, _, _, _, _, hb, rfl⟩ := h
  exact ⟨_, _, _, _, _, _, _, _, _, _, _, hb.met b hm, rfl⟩
set_option maxHeartbeats 2000000 in
theorem x_ask (w : World) (X C Q M P lim tk : Nat) (L : LL) (es : Es) (O : Nat → Prop) (h : XT w X C Q M P lim tk L es O) (htk : tk < 1000000) (l p a b : Nat) (r : Bool) (hl : l < 256) (hv : Tells es l p a b r) (ha : a < 1048576) (hb : b < 1048576) :
    Calls Tryz.prog 132 #[.pointer (some ⟨X, 0, none⟩), kyv l p] w fun e w' => e = .returned (.tuple #[env a b, .bool r]) ∧ XR w O X C Q M P lim (tk + 1) L es w' := by
  obtain ⟨W0, hW0⟩ : ∃ W0, (w.alloc (keyo l p)).alloc (endo (.int .i64 0) (.int .i64 0)) = W0 := ⟨_, rfl⟩
  have hb0 : Below w.heap.size w W0 := by rw [← hW0]; exact ((Below.refl _ w).alloc (Nat.le_refl _) _).alloc (by simp) _
  have hz0 : W0.heap.size = w.heap.size + 2 := by rw [← hW0]; simp
  have r3 : W0.heap[w.heap.size]? = some (keyo l p) := by rw [← hW0]; exact (Below.heap_alloc _ _ _ (by simp)).trans (K.alloc_top _ _)
  have r4 : W0.heap[w.heap.size + 1]? = some (endo (.int .i64 0) (.int .i64 0)) := by
    rw [← hW0]
    have := K.alloc_top (w.alloc (keyo l p)) (endo (.int .i64 0) (.int .i64 0))
    rw [World.size_alloc] at this
    exact this
  have hlt := h.lt
  have h0 := h.chg (K.Chg.of_below (O := fun _ => False) hb0) (fun _ _ h => h)
  have c0 := h0.c0
  have hmx := Lib.hid (x_call W0 M tk h0.mx.1 htk)
  have H0 := Lib.hid h0
  have HLT := Lib.hid hlt
  have HB0 := Lib.hid hb0
  have R3 := Lib.hid r3
  have R4 := Lib.hid r4
  have HZ0 := Lib.hid hz0
  clear h hb0 hz0 r3 r4 hlt h0
  go_enter Tryz.func132, Tryz.ntmps132
  go_wp2_with (first
    | (go_at_call 83; (with_reducible refine hmx.out.mono ?_); rintro e w1 ⟨rfl, hm1, hc1⟩
       have h1 := H0.out.met hc1 hm1
       have hOM := HLT.out M H0.out.mx.2
       have hz := HZ0.out
       have z3 := (hc1.block w.heap.size (by omega) (fun e => by have e2 : w.heap.size = M := e; omega)).trans R3.out
       have z4 := (hc1.block (w.heap.size + 1) (by omega) (fun e => by have e2 : w.heap.size + 1 = M := e; omega)).trans R4.out
       have k0 : w1.cell? ⟨w.heap.size, 0, none⟩ = some (.int .u8 (l : Int)) := cell_of_row w1 _ 0 _ _ (0, 0) z3
       have k1 : w1.cell? ⟨w.heap.size, 1, none⟩ = some (.int .u64 (p : Int)) := cell_of_row w1 _ 1 _ _ (0, 0) z3
       have HP := Lib.hid (x_peek w1 X C Q M P lim (tk + 1) L es O h1 l p a b r hl hv ha hb)
       have HC1 := Lib.hid hc1
       have Z4 := Lib.hid z4
       clear hm1 hc1 h1 z3 z4 hOM hz)
    | (go_at_call 122; (with_reducible refine HP.out.mono ?_); rintro e w2 ⟨rfl, hx2⟩
       obtain ⟨O2, hT2, hC2, hI2⟩ := hx2
       have hz := HZ0.out
       have hs1 := HC1.out.size
       have hn : ¬ O (w.heap.size + 1) := fun hj => by have := HLT.out _ hj; omega
       have z4 := (hC2.block (w.heap.size + 1) (by omega) hn).trans Z4.out
       have f0 := frozen_of_row w2 _ 0 _ _ z4
       have f1 := frozen_of_row w2 _ 1 _ _ z4
       have k0 := cell_of_row w2 _ 0 _ _ (0, 0) z4
       have k1 := cell_of_row w2 _ 1 _ _ (0, 0) z4
       have HT2 := Lib.hid hT2
       have HC2 := Lib.hid hC2
       have HI2 := Lib.hid hI2
       have HN := Lib.hid hn
       have Z4' := Lib.hid z4
       clear hT2 hC2 hI2 z4 hz hs1 hn))
  have hrow := row_set (row_set Z4'.out 0 (.int .i64 (a : Int))) 1 (.int .i64 (b : Int))
  refine bodyPost_ret (ends_res2 rfl _ _ (w.heap.size + 1) _ _ _ rfl (by simpa using hrow) rfl) rfl ⟨rfl, ?_⟩
  have hset := (chg_set w2 (w.heap.size + 1) 0 (.int .i64 (a : Int)) (· = w.heap.size + 1) rfl).same (chg_set _ (w.heap.size + 1) 1 (.int .i64 (b : Int)) (· = w.heap.size + 1) rfl)
  have hz := HZ0.out
  have hs1 := HC1.out.size
  have hs2 := HC2.out.size
  refine ⟨O2, HT2.out.chg hset (fun j hj e => ?_), ?_, fun j hj => ?_⟩
  · have e2 : j = w.heap.size + 1 := e
    subst e2
    rcases HI2.out _ hj with h | h
    · exact HN.out h
    · omega
  · have c1 : K.Chg w w1 O := ((K.Chg.of_below (O := O) HB0.out).trans HC1.out (fun j e => .inl (by have e2 : j = M := e; subst e2; exact H0.out.mx.2)))
    exact (c1.same HC2.out).trans hset (fun j e => .inr (by have e2 : j = w.heap.size + 1 := e; omega))
  · rcases HI2.out j hj with h | h
    · exact .inl h
    · exact .inr (by omega)
set_option maxHeartbeats 2000000 in
theorem x_put (w : World) (X C Q M P lim tk : Nat) (L : LL) (es es' : Es) (O : Nat → Prop) (h : XT w X C Q M P lim tk L es O) (l p a b : Nat) (ha : a < 1048576) (hb : b < 1048576) (r : Bool)
    (hput : ∀ W Qt Mt seed n pr, Hs.Tab W P Qt Mt seed n es pr 0 → Calls Tryz.prog 94 #[.pointer (some ⟨P, 0, none⟩), kyv l p, .int .u64 ((a * 4294967296 + b : Nat) : Int)] W (Hs.PutP W P Qt Mt seed n es' 0 r)) :
    Calls Tryz.prog 151 #[.pointer (some ⟨X, 0, none⟩), kyv l p, env a b] w fun e w' => e = .returned (.tuple #[]) ∧ XR w O X C Q M P lim tk L es' w' := by
  obtain ⟨W0, hW0⟩ : ∃ W0, (w.alloc (keyo l p)).alloc (endo (.int .i64 (a : Int)) (.int .i64 (b : Int))) = W0 := ⟨_, rfl⟩
  have hb0 : Below w.heap.size w W0 := by rw [← hW0]; exact ((Below.refl _ w).alloc (Nat.le_refl _) _).alloc (by simp) _
  have hz0 : W0.heap.size = w.heap.size + 2 := by rw [← hW0]; simp
  have r3 : W0.heap[w.heap.size]? = some (keyo l p) := by rw [← hW0]; exact (Below.heap_alloc _ _ _ (by simp)).trans (K.alloc_top _ _)
  have r4 : W0.heap[w.heap.size + 1]? = some (endo (.int .i64 (a : Int)) (.int .i64 (b : Int))) := by
    rw [← hW0]
    have := K.alloc_top (w.alloc (keyo l p)) (endo (.int .i64 (a : Int)) (.int .i64 (b : Int)))
    rw [World.size_alloc] at this
    exact this
  have hlt := h.lt
  have h0 : XT W0.drew X C Q M P lim tk L es O := h.chg ((K.Chg.of_below (O := fun _ => False) hb0).drewN 1) (fun _ _ h => h)
  have hS0 : W0.drew.cell? ⟨X, 2, none⟩ = some (.pointer (some ⟨P, 0, none⟩)) ∧ W0.drew.cell? ⟨w.heap.size, 0, none⟩ = some (.int .u8 (l : Int)) ∧ W0.drew.cell? ⟨w.heap.size, 1, none⟩ = some (.int .u64 (p : Int)) ∧ W0.drew.cell? ⟨w.heap.size + 1, 0, none⟩ = some (.int .i64 (a : Int)) ∧ W0.drew.cell? ⟨w.heap.size + 1, 1, none⟩ = some (.int .i64 (b : Int)) :=
    ⟨h0.c2, cell_of_row W0 _ 0 _ _ (0, 0) r3, cell_of_row W0 _ 1 _ _ (0, 0) r3, cell_of_row W0 _ 0 _ _ (0, 0) r4, cell_of_row W0 _ 1 _ _ (0, 0) r4⟩
  have HS0 := Lib.hid hS0
  have hpk := fun W => Lib.hid (x_pack W a b ha hb)
  obtain ⟨v, hvv⟩ : ∃ v, a * 4294967296 + b = v := ⟨_, rfl⟩
  rw [hvv] at hpk hput
  have HPUT := Lib.hid hput
  have H0 := Lib.hid h0
  have HLT := Lib.hid hlt
  have HB0 := Lib.hid hb0
  have R3 := Lib.hid r3
  have R4 := Lib.hid r4
  have HZ0 := Lib.hid hz0
  clear h hb0 hz0 r3 r4 hlt h0 hS0 hvv hput
  go_enter Tryz.func151, Tryz.ntmps151
  go_wp2
  go_region_held3 (fun Y => Y.cell? ⟨X, 2, none⟩ = some (.pointer (some ⟨P, 0, none⟩)) ∧ Y.cell? ⟨w.heap.size, 0, none⟩ = some (.int .u8 (l : Int)) ∧ Y.cell? ⟨w.heap.size, 1, none⟩ = some (.int .u64 (p : Int)) ∧ Y.cell? ⟨w.heap.size + 1, 0, none⟩ = some (.int .i64 (a : Int)) ∧ Y.cell? ⟨w.heap.size + 1, 1, none⟩ = some (.int .i64 (b : Int))) (first | (with_reducible exact HS0.out) | (with_reducible exact HS1.out) | (with_reducible exact HS2.out) | go_keep) (first
    | (go_at_call 162; (with_reducible refine (hpk _).out.mono ?_); rintro e w1 ⟨rfl, hb1⟩
       have hz : W0.drew.heap.size = w.heap.size + 2 := HZ0.out
       have h1 := H0.out.chg (K.Chg.of_below (O := fun _ => False) hb1) (fun _ _ h => h)
       have z3 := (hb1.block w.heap.size (by omega)).trans R3.out
       have z4 := (hb1.block (w.heap.size + 1) (by omega)).trans R4.out
       have hS1 : w1.cell? ⟨X, 2, none⟩ = some (.pointer (some ⟨P, 0, none⟩)) ∧ w1.cell? ⟨w.heap.size, 0, none⟩ = some (.int .u8 (l : Int)) ∧ w1.cell? ⟨w.heap.size, 1, none⟩ = some (.int .u64 (p : Int)) ∧ w1.cell? ⟨w.heap.size + 1, 0, none⟩ = some (.int .i64 (a : Int)) ∧ w1.cell? ⟨w.heap.size + 1, 1, none⟩ = some (.int .i64 (b : Int)) :=
         ⟨h1.c2, cell_of_row w1 _ 0 _ _ (0, 0) z3, cell_of_row w1 _ 1 _ _ (0, 0) z3, cell_of_row w1 _ 0 _ _ (0, 0) z4, cell_of_row w1 _ 1 _ _ (0, 0) z4⟩
       have HS1 := Lib.hid hS1
       obtain ⟨seed, An, cn, Af, cf, ns, fs, Qt, Mt, n, pr, hx, hO⟩ := h1
       have HPC := Lib.hid (HPUT.out w1 Qt Mt seed n pr hx.tab)
       have HX1 := Lib.hid hx
       have HO := Lib.hid hO
       have HB1 := Lib.hid hb1
       have Z3 := Lib.hid z3
       have Z4 := Lib.hid z4
       clear hb1 z3 z4 hS1 hx hO hz)
    | (go_at_call 94; (with_reducible refine HPC.out.mono ?_); rintro e w2 ⟨rfl, ht⟩
       obtain ⟨Qt', n', pr', hx2, hc2, hq2⟩ := HX1.out.tabs ht
       have hz : W0.heap.size = w.heap.size + 2 := HZ0.out
       have hs1 : W0.heap.size ≤ w1.heap.size := HB1.out.size
       have hn : ∀ g, w.heap.size ≤ g → ¬ Hs.TF P Qt Mt g := fun g hg hj => by
         have h1 : O g := by rw [HO.out]; exact .inr (.inr (.inr hj))
         have := HLT.out g h1
         omega
       have z3 := (hc2.block w.heap.size (by omega) (hn _ (Nat.le_refl _))).trans Z3.out
       have z4 := (hc2.block (w.heap.size + 1) (by omega) (hn _ (by omega))).trans Z4.out
       have hS2 : w2.cell? ⟨X, 2, none⟩ = some (.pointer (some ⟨P, 0, none⟩)) ∧ w2.cell? ⟨w.heap.size, 0, none⟩ = some (.int .u8 (l : Int)) ∧ w2.cell? ⟨w.heap.size, 1, none⟩ = some (.int .u64 (p : Int)) ∧ w2.cell? ⟨w.heap.size + 1, 0, none⟩ = some (.int .i64 (a : Int)) ∧ w2.cell? ⟨w.heap.size + 1, 1, none⟩ = some (.int .i64 (b : Int)) :=
         ⟨cell_of_row w2 X 2 _ _ (0, 0) hx2.row, cell_of_row w2 _ 0 _ _ (0, 0) z3, cell_of_row w2 _ 1 _ _ (0, 0) z3, cell_of_row w2 _ 0 _ _ (0, 0) z4, cell_of_row w2 _ 1 _ _ (0, 0) z4⟩
       have HS2 := Lib.hid hS2
       have HX2 := Lib.hid hx2
       have HC2 := Lib.hid hc2
       have HQ2 := Lib.hid hq2
       clear ht hx2 hc2 hq2 hz hs1 hn z3 z4 hS2))
  all_goals
    go_wp2
    go_end0
    have hz := HZ0.out
    have hs1 : W0.heap.size ≤ w1.heap.size := HB1.out.size
    refine ⟨rfl, _, ⟨seed, An, cn, Af, cf, ns, fs, Qt', Mt, n', pr', HX2.out, rfl⟩, ?_, fun j hj => ?_⟩
    · have c1 : K.Chg w w1 O := ((K.Chg.of_below (O := O) HB0.out).drewN 1).same (K.Chg.of_below HB1.out)
      exact c1.trans HC2.out (fun j hj => .inl (by rw [HO.out]; exact .inr (.inr (.inr hj))))
    · rw [HO.out]
      rcases hj with e | e | hj | (e | e | e)
      · exact .inl (.inl e)
      · exact .inl (.inr (.inl e))
      · exact .inl (.inr (.inr (.inl hj)))
      · exact .inl (.inr (.inr (.inr (.inl e))))
      · rcases HQ2.out with h | h
        · exact .inl (.inr (.inr (.inr (.inr (.inl (by omega))))))
        · exact .inr (by omega)
      · exact .inl (.inr (.inr (.inr (.inr (.inr e)))))
abbrev spv (s : Int) (a b : Nat) : Value := .agg #[.int .i64 s, .int .i64 (a : Int), .int .i64 (b : Int)]
abbrev spo (s : Int) (a b : Nat) : Obj := .cells #[.int .i64 s, .int .i64 (a : Int), .int .i64 (b : Int)] 163
theorem x_needs (w : World) (c a b : Nat) (hc : c ≤ 65) :
    Calls Tryz.prog 123 #[spv ((c : Int) - 1) a b] w fun e w' => e = .returned (.int .i64 ((if c = 65 then 0 else 66 - c : Nat) : Int)) ∧ Below w.heap.size w w' := by
  by_cases h : c = 65
  · subst h
    rw [if_pos rfl]
    go_enter Tryz.func123, Tryz.ntmps123
    go_wp2
    go_ret
    exact ⟨rfl, (Below.refl _ w).alloc (Nat.le_refl _) _⟩
  · rw [if_neg h]
    obtain ⟨s, hs⟩ : ∃ s : Int, (c : Int) - 1 = s := ⟨_, rfl⟩
    have g0 : (s == 64) = false := by rw [beq_eq_false_iff_ne]; omega
    have w1 : IntKind.i64.wrap (64 - s) = 64 - s := IntWalk.i64_in _ (by omega)
    have w2 : IntKind.i64.wrap (64 - s + 1) = ((66 - c : Nat) : Int) := by rw [IntWalk.i64_in _ (by omega)]; omega
    rw [hs]
    clear hs h
    generalize 66 - c = r at *
    go_enter Tryz.func123, Tryz.ntmps123
    go_wp2
    go_ret
    exact ⟨rfl, (Below.refl _ w).alloc (Nat.le_refl _) _⟩
end Go.Proofs.YtialjokdaniofaaGreat
