/- A prefix, and two links as a table's value; which way the keys of the longest prefix lie; the texts walked. An x-fast trie in memory; a prefix is looked up, with a step or without; the texts walked. -/
import Derived.Test.YtelfacchhclgnaaGreatMu12
section
namespace Go.Proofs.YtelfacchhclgnaaGreat
set_option maxRecDepth 20000
open Go.RowKit
set_option linter.unusedSectionVars false
variable [Gh]
namespace X
theorem or_add (a b : Nat) (hb : b < 4294967296) : a * 4294967296 ||| b = a * 4294967296 + b := by
  have h := Nat.two_pow_add_eq_or_of_lt (i := 32) (b := b) hb a
  rw [Nat.mul_comm] at h
  exact h.symm
theorem or_cast (c b : Nat) (hc : c < 18446744073709551616) (hb : b < 18446744073709551616) : bits BinOp.or .u64 (c : Int) (b : Int) = ((c ||| b : Nat) : Int) := by
  have hor : c ||| b < 18446744073709551616 := Nat.or_lt_two_pow (n := 64) hc hb
  show IntKind.u64.wrap ((BitVec.ofInt 64 (c : Int) ||| BitVec.ofInt 64 (b : Int)).toNat : Int) = _
  have e2 : (BitVec.ofInt 64 (c : Int) ||| BitVec.ofInt 64 (b : Int)).toNat = c ||| b := by
    rw [BitVec.toNat_or]
    have a1 : (BitVec.ofInt 64 (c : Int)).toNat = c := by simp; omega
    have a2 : (BitVec.ofInt 64 (b : Int)).toNat = b := by simp; omega
    rw [a1, a2]
  rw [e2]
  exact Hs.u64_in _ (by omega) (by omega)
theorem or_at (a b : Nat) (ha : a < 1048576) (hb : b < 1048576) : bits BinOp.or .u64 ((a : Int) * 4294967296) (b : Int) = ((a * 4294967296 + b : Nat) : Int) := by
  have h1 : (a : Int) * 4294967296 = ((a * 4294967296 : Nat) : Int) := by omega
  rw [h1, or_cast _ _ (by omega) (by omega), or_add a b (by omega)]
theorem bit_of (k s : Nat) (hs : s ≤ 63) : (k * 2 ^ s % 18446744073709551616) / 9223372036854775808 = pf (s + 1) k % 2 := by
  have e1 : (18446744073709551616 : Nat) = 2 ^ (64 - s) * 2 ^ s := by rw [← Nat.pow_add, show 64 - s + s = 64 by omega]
  have e2 : (9223372036854775808 : Nat) = 2 ^ (63 - s) * 2 ^ s := by rw [← Nat.pow_add, show 63 - s + s = 63 by omega]
  have e3 : (2 : Nat) ^ (64 - s) = 2 ^ (63 - s) * 2 := by rw [← Nat.pow_succ]; congr 1; omega
  rw [e1, e2, Nat.mul_mod_mul_right, Nat.mul_div_mul_right _ _ (Nat.two_pow_pos s), e3, Nat.mod_mul_right_div_self]
  unfold pf
  rw [show 64 - (s + 1) = 63 - s by omega]
theorem pf_half {l : Nat} (hl : l ≤ 63) (k : Nat) : pf (l + 1) k / 2 = pf l k := by
  unfold pf
  rw [Nat.div_div_eq_div_mul, ← Nat.pow_succ]
  congr 2
  omega
section
variable {L1 L2 : LL} {k : Nat}
/-- Where the keys of the longest prefix lie. -/
theorem near_cases (hr : Rises (L1 ++ L2)) (h1 : ∀ x ∈ L1, x.2 < k) (h2 : ∀ x ∈ L2, k < x.2) {s : Nat} (hs : sc (L1 ++ L2) k = s + 1) (hs2 : s ≤ 63) :
    (pf (s + 1) k % 2 = 0 → L2 ≠ [] ∧ (fst' (sg (L1 ++ L2) s (pf s k)) : Int) = hd L2 (-1)) ∧ (pf (s + 1) k % 2 ≠ 0 → L1 ≠ [] ∧ (lst' (sg (L1 ++ L2) s (pf s k)) : Int) = lst (-1) L1) := by
  obtain ⟨r1, r2⟩ := rises_app hr
  have hne := sc_yes (L := L1 ++ L2) (k := k) (l := s) (by omega)
  have hno := sc_no (L := L1 ++ L2) (k := k) (l := s + 1) (by omega) (by omega)
  have hdiff : ∀ x ∈ sg (L1 ++ L2) s (pf s k), pf (s + 1) x.2 ≠ pf (s + 1) k ∧ pf (s + 1) x.2 / 2 = pf (s + 1) k / 2 := by
    intro x hx
    obtain ⟨h3, h4⟩ := mem_sg.1 hx
    refine ⟨fun e => ?_, by rw [pf_half hs2, pf_half hs2, h4]⟩
    have : x ∈ sg (L1 ++ L2) (s + 1) (pf (s + 1) k) := mem_sg.2 ⟨h3, e⟩
    rw [hno] at this
    cases this
  have la := fun hne => last_sg (l := s) r1 (fun x hx => Nat.le_of_lt (h1 x hx)) hne (-1)
  have fb := fun hne => first_sg (l := s) r2 (fun x hx => Nat.le_of_lt (h2 x hx)) hne (-1)
  rw [sg_app] at hne hdiff ⊢
  constructor
  · intro h0
    have e1 : sg L1 s (pf s k) = [] := by
      rcases Classical.em (sg L1 s (pf s k) = []) with h | h
      · exact h
      · exfalso
        obtain ⟨x, hx⟩ := List.exists_mem_of_ne_nil _ h
        obtain ⟨h3, h4⟩ := hdiff x (List.mem_append_left _ hx)
        have h5 := h1 x (sg_sub hx)
        have h6 := pf_mono (l := s + 1) (Nat.le_of_lt h5)
        omega
    rw [e1, List.nil_append] at hne ⊢
    refine ⟨fun e => ?_, ?_⟩
    · subst e
      exact hne rfl
    · rw [fst_eq hne (-1), fb hne]
  · intro h0
    have e2 : sg L2 s (pf s k) = [] := by
      rcases Classical.em (sg L2 s (pf s k) = []) with h | h
      · exact h
      · exfalso
        obtain ⟨x, hx⟩ := List.exists_mem_of_ne_nil _ h
        obtain ⟨h3, h4⟩ := hdiff x (List.mem_append_right _ hx)
        have h5 := h2 x (sg_sub hx)
        have h6 := pf_mono (l := s + 1) (Nat.le_of_lt h5)
        omega
    rw [e2, List.append_nil] at hne ⊢
    refine ⟨fun e => ?_, ?_⟩
    · subst e
      exact hne rfl
    · rw [lst_eq hne (-1), la hne]
end
end X
abbrev kyv (l p : Nat) : Value := .agg #[.int .u8 (l : Int), .int .u64 (p : Int)]
abbrev env (a b : Nat) : Value := .agg #[.int .i64 (a : Int), .int .i64 (b : Int)]
theorem ends_res {fn : Func} {u : Tmp} (h : fn.results = #[.cell u 161]) (tmps : Array Value) (w : World) (g : Nat) (a b : Value) (hu : tmps.getD u undef = .pointer (some ⟨g, 0, none⟩))
    (hc : w.heap[g]? = some (.cells #[a, b] 161 (0, 0))) : (results fn tmps).run Tryz.prog w = .ok (.agg #[a, b]) w := by
  have hp' : tmps[u]?.getD undef = .pointer (some ⟨g, 0, none⟩) := by simpa using hu
  have hr := run_loadVar_row (P := Tryz.prog) w g 161 161 _ (0, 0) _ hc Tryz.underlying161 (by kernel_rfl) (by kernel_rfl)
  simp [results, h, hp', asAddr, hr]
theorem ends_res2 {fn : Func} {u t : Tmp} (h : fn.results = #[.cell u 161, .tmp t]) (tmps : Array Value) (w : World) (g : Nat) (a b : Value) (z : Value) (hu : tmps.getD u undef = .pointer (some ⟨g, 0, none⟩))
    (hc : w.heap[g]? = some (.cells #[a, b] 161 (0, 0))) (hb : tmps.getD t undef = z) : (results fn tmps).run Tryz.prog w = .ok (.tuple #[.agg #[a, b], z]) w := by
  have hp' : tmps[u]?.getD undef = .pointer (some ⟨g, 0, none⟩) := by simpa using hu
  have hb' : tmps[t]?.getD undef = z := by simpa using hb
  have hr := run_loadVar_row (P := Tryz.prog) w g 161 161 _ (0, 0) _ hc Tryz.underlying161 (by kernel_rfl) (by kernel_rfl)
  simp [results, h, hp', hb', asAddr, hr]
theorem key_res {fn : Func} {u : Tmp} (h : fn.results = #[.cell u 137]) (tmps : Array Value) (w : World) (g : Nat) (a b : Value) (hu : tmps.getD u undef = .pointer (some ⟨g, 0, none⟩))
    (hc : w.heap[g]? = some (.cells #[a, b] 137 (0, 0))) : (results fn tmps).run Tryz.prog w = .ok (.agg #[a, b]) w := by
  have hp' : tmps[u]?.getD undef = .pointer (some ⟨g, 0, none⟩) := by simpa using hu
  have hr := run_loadVar_row (P := Tryz.prog) w g 137 137 _ (0, 0) _ hc Tryz.underlying137 (by kernel_rfl) (by kernel_rfl)
  simp [results, h, hp', asAddr, hr]
theorem x_prefix (w : World) (k l : Nat) (hl : l ≤ 64) :
    Calls Tryz.prog 137 #[.int .u64 (k : Int), .int .i64 (l : Int)] w fun e w' => e = .returned (kyv l (X.pf l k)) ∧ Below w.heap.size w w' := by
  have w1 : IntKind.u8.wrap (l : Int) = (l : Int) := by simp [IntKind.wrap, IntKind.signed, IntKind.bits]; omega
  have w2 : IntKind.i64.wrap (64 - (l : Int)) = 64 - (l : Int) := IntWalk.i64_in _ (by omega)
  have e : (k : Int) / 2 ^ (64 - l) = ((X.pf l k : Nat) : Int) := by unfold X.pf; push_cast; rfl
  generalize X.pf l k = p at *
  go_enter Tryz.func137, Tryz.ntmps137
  go_wp2
  exact bodyPost_ret (key_res rfl _ _ w.heap.size _ _ rfl (K.alloc_top _ _)) rfl ⟨rfl, (Below.refl _ w).alloc (Nat.le_refl _) _⟩
theorem x_pack (w : World) (a b : Nat) (ha : a < 1048576) (hb : b < 1048576) :
    Calls Tryz.prog 162 #[env a b] w fun e w' => e = .returned (.int .u64 ((a * 4294967296 + b : Nat) : Int)) ∧ Below w.heap.size w w' := by
  have e := X.or_at a b ha hb
  generalize a * 4294967296 + b = c at *
  go_enter Tryz.func162, Tryz.ntmps162
  go_wp2
  go_ret
  exact ⟨rfl, (Below.refl _ w).alloc (Nat.le_refl _) _⟩
theorem x_unpack (w : World) (a b : Nat) (ha : a < 1048576) (hb : b < 1048576) :
    Calls Tryz.prog 146 #[.int .u64 ((a * 4294967296 + b : Nat) : Int)] w fun e w' => e = .returned (env a b) ∧ Below w.heap.size w w' := by
  obtain ⟨c, hc⟩ : ∃ c, a * 4294967296 + b = c := ⟨_, rfl⟩
  have e1 : (c : Int) / 4294967296 = (a : Int) := by omega
  have e2 : (c : Int) % 4294967296 = (b : Int) := by omega
  have w1 : IntKind.i64.wrap (a : Int) = (a : Int) := IntWalk.i64_in _ (by omega)
  have w2 : IntKind.i64.wrap (b : Int) = (b : Int) := IntWalk.i64_in _ (by omega)
  have w3 : IntKind.u32.wrap (c : Int) = (b : Int) := by simp [IntKind.wrap, IntKind.signed, IntKind.bits]; omega
  rw [hc]
  clear hc
  go_enter Tryz.func146, Tryz.ntmps146
  go_wp2
  refine bodyPost_ret (ends_res rfl _ _ w.heap.size _ _ rfl (K.alloc_top _ _)) rfl ⟨?_, (Below.refl _ w).alloc (Nat.le_refl _) _⟩
  rfl
theorem x_above (w : World) (s a b k : Nat) (hs : s ≤ 63) :
    Calls Tryz.prog 143 #[.agg #[.int .i64 (s : Int), .int .i64 (a : Int), .int .i64 (b : Int)], .int .u64 (k : Int)] w fun e w' => e = .returned (.bool (decide (X.pf (s + 1) k % 2 = 0))) ∧ Below w.heap.size w w' := by
  have e := X.bit_of k s hs
  have e2 : (IntKind.u64.wrap ((k : Int) * 2 ^ s) / 9223372036854775808 == 0) = decide (X.pf (s + 1) k % 2 = 0) := by
    rw [← e, IntKind.wrap_u64]
    have h1 : ((k : Int) * 2 ^ s) = ((k * 2 ^ s : Nat) : Int) := by push_cast; rfl
    rw [h1, Bool.eq_iff_iff, beq_iff_eq, decide_eq_true_eq]
    generalize k * 2 ^ s = c
    omega
  generalize decide (X.pf (s + 1) k % 2 = 0) = r at *
  clear e
  go_enter Tryz.func143, Tryz.ntmps143
  go_wp2
  go_ret
  exact ⟨by rw [← e2]; simp, (Below.refl _ w).alloc (Nat.le_refl _) _⟩
end Go.Proofs.YtelfacchhclgnaaGreat
end
section
namespace Go.Proofs.YtelfacchhclgnaaGreat
set_option maxRecDepth 20000
open Go.RowKit
set_option linter.unusedSectionVars false
variable [Gh]
abbrev Es := List (Hs.H.Key × Nat)
/-- The trie at X: its meter, its chain, its table. -/
structure XB (w : World) (X C Q M P lim tk seed : Nat) (An : Option Addr) (cn : Nat) (Af : Option Addr) (cf : Nat) (ns : List (Nd × Bool)) (fs : List Nat) (L : LL) (Qt Mt n pr : Nat) (es : Es) : Prop where
  row : w.heap[X]? = some (.cells #[.pointer (some ⟨M, 0, none⟩), .pointer (some ⟨C, 0, none⟩), .pointer (some ⟨P, 0, none⟩), .int .i64 (lim : Int)] 114 (0, 0))
  mx : Mx w M tk
  ch : CW w C Q M lim An cn Af cf ns fs L
  tab : Hs.Tab w P Qt Mt seed n es pr 0
  ap : M ≠ Mt
/-- Its blocks. -/
def XK (X C Q M P Qt Mt : Nat) (An Af : Option Addr) (j : Nat) : Prop := j = X ∨ j = M ∨ CB C Q An Af j ∨ Hs.TF P Qt Mt j
theorem tab_rows {w : World} {P Q M seed n pr cl : Nat} {es : Es} (h : Hs.Tab w P Q M seed n es pr cl) : (∃ c, w.heap[P]? = some (.cells c 118 (0, 0))) ∧ (∃ c, w.heap[Q]? = some (.cells c 169 (0, 0))) ∧ ∃ c, w.heap[M]? = some (.cells c 87 (0, 0)) := by
  obtain ⟨ps, t, p, h1, _, _, _, _, _, h7, _⟩ := h
  obtain ⟨r, c, s, t', p', hr⟩ := h7
  exact ⟨⟨_, h1.row⟩, ⟨_, h1.pl⟩, ⟨_, hr⟩⟩
section
variable {w w' : World} {X C Q M P lim tk seed cn cf Qt Mt n pr : Nat} {An Af : Option Addr} {ns : List (Nd × Bool)} {fs : List Nat} {L : LL} {es : Es}
theorem cb_rows (h : CW w C Q M lim An cn Af cf ns fs L) {j : Nat} (hj : CB C Q An Af j) : ∃ c T, w.heap[j]? = some (.cells c T (0, 0)) ∧ (T = 112 ∨ T = 148 ∨ T = 186 ∨ T = 3) := by
  rcases hj with rfl | rfl | hj | hj
  · exact ⟨_, _, h.cb.row, .inl rfl⟩
  · exact ⟨_, _, h.po.row, .inr (.inl rfl)⟩
  · obtain ⟨_, c, hc⟩ := own_block_lt h.po.nodes hj
    exact ⟨_, _, hc, .inr (.inr (.inl rfl))⟩
  · obtain ⟨_, c, hc⟩ := own_block_lt h.po.freed hj
    exact ⟨_, _, hc, .inr (.inr (.inr rfl))⟩
theorem tf_rows (h : Hs.Tab w P Qt Mt seed n es pr 0) {j : Nat} (hj : Hs.TF P Qt Mt j) : ∃ c T, w.heap[j]? = some (.cells c T (0, 0)) ∧ (T = 118 ∨ T = 169 ∨ T = 87) := by
  obtain ⟨⟨c1, h1⟩, ⟨c2, h2⟩, ⟨c3, h3⟩⟩ := tab_rows h
  rcases hj with rfl | rfl | rfl
  · exact ⟨_, _, h1, .inl rfl⟩
  · exact ⟨_, _, h2, .inr (.inl rfl)⟩
  · exact ⟨_, _, h3, .inr (.inr rfl)⟩
theorem XB.x_tf (h : XB w X C Q M P lim tk seed An cn Af cf ns fs L Qt Mt n pr es) : ¬ Hs.TF P Qt Mt X := fun hj => by
  obtain ⟨c, T, hr, ht⟩ := tf_rows h.tab hj
  rcases ht with rfl | rfl | rfl <;> exact row_ne h.row hr (by decide) rfl
theorem XB.x_cb (h : XB w X C Q M P lim tk seed An cn Af cf ns fs L Qt Mt n pr es) : ¬ CB C Q An Af X := fun hj => by
  obtain ⟨c, T, hr, ht⟩ := cb_rows h.ch hj
  rcases ht with rfl | rfl | rfl | rfl <;> exact row_ne h.row hr (by decide) rfl
theorem XB.x_m (h : XB w X C Q M P lim tk seed An cn Af cf ns fs L Qt Mt n pr es) : X ≠ M := by
  obtain ⟨r, c, s, p, _, hr, _⟩ := h.mx
  exact row_ne h.row hr (by decide)
theorem XB.m_tf (h : XB w X C Q M P lim tk seed An cn Af cf ns fs L Qt Mt n pr es) : ¬ Hs.TF P Qt Mt M := fun hj => by
  obtain ⟨r, c, s, p, _, hr, _⟩ := h.mx
  obtain ⟨⟨c1, h1⟩, ⟨c2, h2⟩, _⟩ := tab_rows h.tab
  rcases hj with rfl | rfl | e
  · exact row_ne hr h1 (by decide) rfl
  · exact row_ne hr h2 (by decide) rfl
  · exact h.ap e
theorem XB.m_cb (h : XB w X C Q M P lim tk seed An cn Af cf ns fs L Qt Mt n pr es) : ¬ CB C Q An Af M := h.ch.ne_m h.mx
theorem XB.cb_tf (h : XB w X C Q M P lim tk seed An cn Af cf ns fs L Qt Mt n pr es) {j : Nat} (h1 : CB C Q An Af j) (h2 : Hs.TF P Qt Mt j) : False := by
  obtain ⟨c, T, hr, ht⟩ := cb_rows h.ch h1
  obtain ⟨c', T', hr', ht'⟩ := tf_rows h.tab h2
  rcases ht with rfl | rfl | rfl | rfl <;> rcases ht' with rfl | rfl | rfl <;> exact row_ne hr hr' (by decide) rfl
theorem XB.lt (h : XB w X C Q M P lim tk seed An cn Af cf ns fs L Qt Mt n pr es) {j : Nat} (hj : XK X C Q M P Qt Mt An Af j) : j < w.heap.size := by
  rcases hj with rfl | rfl | hj | hj
  · exact row_lt h.row
  · exact h.mx.lt
  · exact h.ch.lt hj
  · obtain ⟨c, T, hr, _⟩ := tf_rows h.tab hj
    exact row_lt hr
theorem XB.chg {O : Nat → Prop} (h : XB w X C Q M P lim tk seed An cn Af cf ns fs L Qt Mt n pr es) (b : K.Chg w w' O) (hO : ∀ j, XK X C Q M P Qt Mt An Af j → ¬ O j) : XB w' X C Q M P lim tk seed An cn Af cf ns fs L Qt Mt n pr es :=
  ⟨(b.block X (h.lt (.inl rfl)) (hO X (.inl rfl))).trans h.row, h.mx.chg b (hO M (.inr (.inl rfl))), h.ch.chg b (fun j hj => hO j (.inr (.inr (.inl hj)))), h.tab.but (ButS.of_chg b) (fun j hj => hO j (.inr (.inr (.inr hj)))), h.ap⟩
theorem XB.met {tk' : Nat} (h : XB w X C Q M P lim tk seed An cn Af cf ns fs L Qt Mt n pr es) (b : K.Chg w w' (· = M)) (hm : Mx w' M tk') : XB w' X C Q M P lim tk' seed An cn Af cf ns fs L Qt Mt n pr es :=
  ⟨(b.block X (h.lt (.inl rfl)) h.x_m).trans h.row, hm, h.ch.chg b (fun j hj e => by have e2 : j = M := e; subst e2; exact h.m_cb hj), h.tab.but (ButS.of_chg b) (fun j hj e => by have e2 : j = M := e; subst e2; exact h.m_tf hj), h.ap⟩
theorem XB.tabs {es' : Es} {cl : Nat} (h : XB w X C Q M P lim tk seed An cn Af cf ns fs L Qt Mt n pr es) (hs : Hs.TStep w P Qt Mt seed n es' cl w') :
    ∃ Qt' n' pr', XB w' X C Q M P lim tk seed An cn Af cf ns fs L Qt' Mt n' pr' es' ∧ K.Chg w w' (Hs.TF P Qt Mt) ∧ (Qt' = Qt ∨ w.heap.size ≤ Qt') := by
  obtain ⟨Qt', n', pr', ht, hb, hq, _⟩ := hs
  have b := hb.chg
  exact ⟨Qt', n', pr', ⟨(b.block X (h.lt (.inl rfl)) h.x_tf).trans h.row, h.mx.chg b h.m_tf, h.ch.chg b (fun j hj hj2 => h.cb_tf hj hj2), ht.any 0, h.ap⟩, b, hq⟩
theorem XB.chs {An' Af' : Option Addr} {cn' cf' : Nat} {ns' : List (Nd × Bool)} {fs' : List Nat} {L' : LL} (h : XB w X C Q M P lim tk seed An cn Af cf ns fs L Qt Mt n pr es) (b : K.Chg w w' (CB C Q An Af)) (hc : CW w' C Q M lim An' cn' Af' cf' ns' fs' L') :
    XB w' X C Q M P lim tk seed An' cn' Af' cf' ns' fs' L' Qt Mt n pr es :=
  ⟨(b.block X (h.lt (.inl rfl)) h.x_cb).trans h.row, h.mx.chg b h.m_cb, hc, h.tab.but (ButS.of_chg b) (fun j hj hj2 => h.cb_tf hj2 hj), h.ap⟩
end
/-- The trie, of which its blocks are told. -/
def XT (w : World) (X C Q M P lim tk : Nat) (L : LL) (es : Es) (O : Nat → Prop) : Prop :=
  ∃ seed An cn Af cf ns fs Qt Mt n pr, XB w X C Q M P lim tk seed An cn Af cf ns fs L Qt Mt n pr es ∧ O = XK X C Q M P Qt Mt An Af
/-- What a call leaves of it. -/
def XR (w : World) (O : Nat → Prop) (X C Q M P lim tk : Nat) (L : LL) (es : Es) (w' : World) : Prop :=
  ∃ O', XT w' X C Q M P lim tk L es O' ∧ K.Chg w w' O ∧ ∀ j, O' j → O j ∨ w.heap.size ≤ j
section
variable {w w' w2 : World} {X C Q M P lim tk : Nat} {L : LL} {es : Es} {O : Nat → Prop}
theorem XT.lt (h : XT w X C Q M P lim tk L es O) : ∀ j, O j → j < w.heap.size := by
  obtain ⟨_, _, _, _, _, _, _, _, _, _, _, hb, rfl⟩ := h
  exact fun j hj => hb.lt hj
theorem XT.chg {O' : Nat → Prop} (h : XT w X C Q M P lim tk L es O) (b : K.Chg w w' O') (hO : ∀ j, O j → ¬ O' j) : XT w' X C Q M P lim tk L es O := by
  obtain ⟨_, _, _, _, _, _, _, _, _, _, _, hb, rfl⟩ := h
  exact ⟨_, _, _, _, _, _, _, _, _, _, _, hb.chg b hO, rfl⟩
theorem XT.row (h : XT w X C Q M P lim tk L es O) : w.heap[X]? = some (.cells #[.pointer (some ⟨M, 0, none⟩), .pointer (some ⟨C, 0, none⟩), .pointer (some ⟨P, 0, none⟩), .int .i64 (lim : Int)] 114 (0, 0)) := by
  obtain ⟨_, _, _, _, _, _, _, _, _, _, _, hb, rfl⟩ := h
  exact hb.row
theorem XT.c0 (h : XT w X C Q M P lim tk L es O) : w.cell? ⟨X, 0, none⟩ = some (.pointer (some ⟨M, 0, none⟩)) := cell_of_row w X 0 _ _ (0, 0) h.row
theorem XT.c1 (h : XT w X C Q M P lim tk L es O) : w.cell? ⟨X, 1, none⟩ = some (.pointer (some ⟨C, 0, none⟩)) := cell_of_row w X 1 _ _ (0, 0) h.row
theorem XT.c2 (h : XT w X C Q M P lim tk L es O) : w.cell? ⟨X, 2, none⟩ = some (.pointer (some ⟨P, 0, none⟩)) := cell_of_row w X 2 _ _ (0, 0) h.row
theorem XT.c3 (h : XT w X C Q M P lim tk L es O) : w.cell? ⟨X, 3, none⟩ = some (.int .i64 (lim : Int)) := cell_of_row w X 3 _ _ (0, 0) h.row
theorem XT.mem (h : XT w X C Q M P lim tk L es O) : O X := by
  obtain ⟨_, _, _, _, _, _, _, _, _, _, _, hb, rfl⟩ := h
  exact .inl rfl
theorem XR.refl (h : XT w X C Q M P lim tk L es O) : XR w O X C Q M P lim tk L es w := ⟨O, h, chg_refl w O, fun j hj => .inl hj⟩
theorem XR.then {tk' : Nat} {L' : LL} {es' : Es} (h : XR w O X C Q M P lim tk L es w') (k : ∀ O', XT w' X C Q M P lim tk L es O' → XR w' O' X C Q M P lim tk' L' es' w2) : XR w O X C Q M P lim tk' L' es' w2 := by
  obtain ⟨O', h1, h2, h3⟩ := h
  obtain ⟨O2, k1, k2, k3⟩ := k O' h1
  refine ⟨O2, k1, h2.trans k2 h3, fun j hj => ?_⟩
  rcases k3 j hj with h | h
  · exact h3 j h
  · exact .inr (Nat.le_trans h2.size h)
/-- Blocks that are younger than the trie's are left alone. -/
theorem XR.far (h : XR w O X C Q M P lim tk L es w') {O2 : Nat → Prop} (b : K.Chg w' w2 O2) (hO : ∀ j, O2 j → w.heap.size ≤ j ∧ ∀ O', XT w' X C Q M P lim tk L es O' → (∀ i, O' i → O i ∨ w.heap.size ≤ i) → ¬ O' j) : XR w O X C Q M P lim tk L es w2 := by
  obtain ⟨O', h1, h2, h3⟩ := h
  exact ⟨O', h1.chg b (fun j hj ho => (hO j ho).2 O' h1 h3 hj), h2.trans b (fun j hj => .inr (hO j hj).1), h3⟩
theorem XR.from {w0 : World} (hb : Below w0.heap.size w0 w) (h : XR w O X C Q M P lim tk L es w') : XR w0 O X C Q M P lim tk L es w' := by
  obtain ⟨O', h1, h2, h3⟩ := h
  refine ⟨O', h1, (K.Chg.of_below hb).same h2, fun j hj => ?_⟩
  rcases h3 j hj with h | h
  · exact .inl h
  · exact .inr (Nat.le_trans hb.size h)
end
/-- What the table tells of a prefix. -/
def Tells (es : Es) (l p a b : Nat) (r : Bool) : Prop := (r = true ∧ ((l, p), a * 4294967296 + b) ∈ es) ∨ (r = false ∧ a = 0 ∧ b = 0 ∧ ∀ x ∈ es, x.1 ≠ (l, p))
abbrev keyo (l p : Nat) : Obj := .cells #[.int .u8 (l : Int), .int .u64 (p : Int)] 137
abbrev endo (a b : Value) : Obj := .cells #[a, b] 161
set_option maxHeartbeats 2000000 in
theorem x_peek (w : World) (X C Q M P lim tk : Nat) (L : LL) (es : Es) (O : Nat → Prop) (h : XT w X C Q M P lim tk L es O) (l p a b : Nat) (r : Bool) (hl : l < 256) (hv : Tells es l p a b r) (ha : a < 1048576) (hb : b < 1048576) :
    Calls Tryz.prog 122 #[.pointer (some ⟨X, 0, none⟩), kyv l p] w fun e w' => e = .returned (.tuple #[env a b, .bool r]) ∧ XR w O X C Q M P lim tk L es w' := by
  obtain ⟨W0, hW0⟩ : ∃ W0, (w.alloc (keyo l p)).alloc (endo (.int .i64 0) (.int .i64 0)) = W0 := ⟨_, rfl⟩
  have hb0 : Below w.heap.size w W0 := by rw [← hW0]; exact ((Below.refl _ w).alloc (Nat.le_refl _) _).alloc (by simp) _
  have hz0 : W0.heap.size = w.heap.size + 2 := by rw [← hW0]; simp
  have r3 : W0.heap[w.heap.size]? = some (keyo l p) := by rw [← hW0]; exact (Below.heap_alloc _ _ _ (by simp)).trans (K.alloc_top _ _)
  have r4 : W0.heap[w.heap.size + 1]? = some (endo (.int .i64 0) (.int .i64 0)) := by
    rw [← hW0]
    have := K.alloc_top (w.alloc (keyo l p)) (endo (.int .i64 0) (.int .i64 0))
    rw [World.size_alloc] at this
    exact this
  have hlt := h.lt
  have h0 := h.chg (K.Chg.of_below (O := fun _ => False) hb0) (fun _ _ h => h)
  have hS0 : W0.drew.cell? ⟨X, 2, none⟩ = some (.pointer (some ⟨P, 0, none⟩)) ∧ W0.drew.cell? ⟨w.heap.size, 0, none⟩ = some (.int .u8 (l : Int)) ∧ W0.drew.cell? ⟨w.heap.size, 1, none⟩ = some (.int .u64 (p : Int)) := ⟨h0.c2, cell_of_row W0 _ 0 _ _ (0, 0) r3, cell_of_row W0 _ 1 _ _ (0, 0) r3⟩
  have HS0 := Lib.hid hS0
  have hX := h.mem
  obtain ⟨seed, An, cn, Af, cf, ns, fs, Qt, Mt, n, pr, hx, hO⟩ := h0
  have hxd : XB W0.drew X C Q M P lim tk seed An cn Af cf ns fs L Qt Mt n pr es := hx.chg ((chg_refl W0 (fun _ => False)).drewN 1) (fun _ _ h => h)
  obtain ⟨v, hvv⟩ : ∃ v, a * 4294967296 + b = v := ⟨_, rfl⟩
  have hg := Hs.tab_get W0.drew P Qt Mt seed n pr 0 es hxd.tab (l, p) hl (by decide) v r (by
    rcases hv with ⟨rfl, h⟩ | ⟨rfl, rfl, rfl, h⟩
    · exact .inl ⟨rfl, by rw [← hvv]; exact h⟩
    · exact .inr ⟨rfl, by rw [← hvv], h⟩)
  have HG := Lib.hid hg
  have hun := fun W => Lib.hid (x_unpack W a b ha hb)
  rw [hvv] at hun
  have HXD := Lib.hid hxd
  have HLT := Lib.hid hlt
  have HB0 := Lib.hid hb0
  have R4 := Lib.hid r4
  have HZ0 := Lib.hid hz0
  have HO := Lib.hid hO
  have R3 := Lib.hid r3
  have HX0 := Lib.hid hX
  clear h hb0 hz0 r3 r4 hlt hS0 hx hO hxd hv hvv hg hX
  go_enter Tryz.func122, Tryz.ntmps122
  go_wp2
  go_region_held3 (fun Y => Y.cell? ⟨X, 2, none⟩ = some (.pointer (some ⟨P, 0, none⟩)) ∧ Y.cell? ⟨w.heap.size, 0, none⟩ = some (.int .u8 (l : Int)) ∧ Y.cell? ⟨w.heap.size, 1, none⟩ = some (.int .u64 (p : Int))) (first | (with_reducible exact HS0.out) | (with_reducible exact HS1.out) | go_keep)
    ((go_at_call 111; (with_reducible refine HG.out.mono ?_); rintro e w1 ⟨rfl, ht⟩
      obtain ⟨Qt', n', pr', hx1, hc1, hq1⟩ := HXD.out.tabs ht
      have hs1 : W0.heap.size ≤ w1.heap.size := hc1.size
      have hn : ∀ g, w.heap.size ≤ g → ¬ Hs.TF P Qt Mt g := fun g hg hj => by
        have h1 : O g := by rw [HO.out]; exact .inr (.inr (.inr hj))
        have := HLT.out g h1
        omega
      have z3 := (hc1.block w.heap.size (by show w.heap.size < W0.heap.size; rw [HZ0.out]; omega) (hn _ (Nat.le_refl _))).trans R3.out
      have z4 := (hc1.block (w.heap.size + 1) (by show w.heap.size + 1 < W0.heap.size; rw [HZ0.out]; omega) (hn _ (by omega))).trans R4.out
      have hS1 : w1.cell? ⟨X, 2, none⟩ = some (.pointer (some ⟨P, 0, none⟩)) ∧ w1.cell? ⟨w.heap.size, 0, none⟩ = some (.int .u8 (l : Int)) ∧ w1.cell? ⟨w.heap.size, 1, none⟩ = some (.int .u64 (p : Int)) := ⟨cell_of_row w1 X 2 _ _ (0, 0) hx1.row, cell_of_row w1 _ 0 _ _ (0, 0) z3, cell_of_row w1 _ 1 _ _ (0, 0) z3⟩
      have HS1 := Lib.hid hS1
      have Z4 := Lib.hid z4
      have HX1 := Lib.hid hx1
      have HC1 := Lib.hid hc1
      have HQ1 := Lib.hid hq1
      clear ht hx1 hc1 hq1 hs1 hn z3 z4 hS1))
  all_goals
    go_wp2_with (go_at_call 146; (with_reducible refine (hun _).out.mono ?_); rintro e w2 ⟨rfl, hb2⟩
                 have z4 := (hb2.block (w.heap.size + 1) (row_lt Z4.out)).trans Z4.out
                 have k0 := cell_of_row w2 _ 0 _ _ (0, 0) z4
                 have k1 := cell_of_row w2 _ 1 _ _ (0, 0) z4
                 have f0 := frozen_of_row w2 _ 0 _ _ z4
                 have f1 := frozen_of_row w2 _ 1 _ _ z4
                 have HB2 := Lib.hid hb2
                 have Z4' := Lib.hid z4
                 clear hb2 z4)
    have hrow := row_set (row_set Z4'.out 0 (.int .i64 (a : Int))) 1 (.int .i64 (b : Int))
    refine bodyPost_ret (ends_res2 rfl _ _ (w.heap.size + 1) _ _ _ rfl (by simpa using hrow) rfl) rfl ⟨rfl, ?_⟩
    have hset := (chg_set w2 (w.heap.size + 1) 0 (.int .i64 (a : Int)) (· = w.heap.size + 1) rfl).same (chg_set _ (w.heap.size + 1) 1 (.int .i64 (b : Int)) (· = w.heap.size + 1) rfl)
    have hz := HZ0.out
    have hs1 : W0.heap.size ≤ w1.heap.size := HC1.out.size
    have hs2 := HB2.out.size
    have hnx : ∀ j, XK X C Q M P Qt' Mt An Af j → j ≠ w.heap.size + 1 := fun j hj e => by
      subst e
      rcases hj with e | e | hj | (e | e | e)
      · have := HLT.out _ (by rw [HO.out]; exact .inl e); omega
      · have := HLT.out _ (by rw [HO.out]; exact .inr (.inl e)); omega
      · have := HLT.out _ (by rw [HO.out]; exact .inr (.inr (.inl hj))); omega
      · have := HLT.out _ (by rw [HO.out]; exact .inr (.inr (.inr (.inl e)))); omega
      · rcases HQ1.out with h | h
        · have := HLT.out (w.heap.size + 1) (by rw [HO.out]; exact .inr (.inr (.inr (.inr (.inl (by omega)))))); omega
        · have h : W0.heap.size ≤ Qt' := h; omega
      · have := HLT.out _ (by rw [HO.out]; exact .inr (.inr (.inr (.inr (.inr e))))); omega
    refine ⟨_, ⟨seed, An, cn, Af, cf, ns, fs, Qt', Mt, n', pr', (HX1.out.chg (K.Chg.of_below (O := fun _ => False) HB2.out) (fun _ _ h => h)).chg hset (fun j hj e => hnx j hj e), rfl⟩, ?_, fun j hj => ?_⟩
    · have c1 : K.Chg w w1 O := (K.Chg.of_below (O := O) HB0.out).same (K.Chg.trans (O := O) ((chg_refl W0 O).drewN 1) HC1.out (fun j hj => .inl (by rw [HO.out]; exact .inr (.inr (.inr hj)))))
      exact (c1.same (K.Chg.of_below HB2.out)).trans hset (fun j e => .inr (by have e2 : j = w.heap.size + 1 := e; omega))
    · rw [HO.out]
      rcases hj with e | e | hj | (e | e | e)
      · exact .inl (.inl e)
      · exact .inl (.inr (.inl e))
      · exact .inl (.inr (.inr (.inl hj)))
      · exact .inl (.inr (.inr (.inr (.inl e))))
      · rcases HQ1.out with h | h
        · exact .inl (.inr (.inr (.inr (.inr (.inl (by omega))))))
        · have h : W0.heap.size ≤ Qt' := h
          exact .inr (by omega)
      · exact .inl (.inr (.inr (.inr (.inr (.inr e)))))
end Go.Proofs.YtelfacchhclgnaaGreat
end
