
/- The law CodeLimits; the text walked. -/
import Derived.Test.YtclaejaicjmohaaD28
namespace Go.Proofs.Ytclaejaicjmohaa
set_option maxRecDepth 20000
open Go.RowKit
namespace E
/-- A block of words. -/
def WW (W : World) (D : Nat) (xs : List Nat) : Prop := W.heap[D]? = some (.cells (wv xs).toArray 22 (0, 0))
theorem WW.fr {W : World} {D : Nat} {xs : List Nat} (h : WW W D xs) (k : Nat) : W.frozen? ⟨D, k, none⟩ = false := by
  unfold WW at h; simp [World.frozen?, h]
theorem WW.set {W : World} {D : Nat} {xs : List Nat} (h : WW W D xs) (k v : Nat) : WW (W.setCell ⟨D, k, none⟩ (.int .u64 (v : Int))) D (xs.set k v) := by
  have := row_set h k (.int .u64 (v : Int))
  unfold WW
  rw [wv, List.map_set]
  simpa using this
theorem WW.there {W : World} {D : Nat} {xs : List Nat} (h : WW W D xs) {k : Nat} (hk : k < xs.length) : W.cell? ⟨D, k, none⟩ = some (.int .u64 (xs[k] : Int)) := by
  rw [cell_of_row W D k _ _ (0, 0) h]
  simp [hk]
theorem WW.kx {W : World} {D n : Nat} {xs : List Nat} (h : WW W D xs) (hn : xs.length = n) (hm : n ≤ 1000000) : KX W (.slice (some ⟨D, 0, none⟩) n n) xs := by
  subst hn
  exact ⟨by simp [wv], .inr ⟨D, xs.length, (wv xs).toArray, rfl, Nat.zero_le _, h, Nat.le_refl _, by unfold maxLen; omega, by simp [wv], by simp [wv, List.take_of_length_le]⟩⟩
/-- The first k of n keys are laid. -/
def sq (f k n : Nat) : List Nat := List.range' f k ++ List.replicate (n - k) 0
theorem sq_len {f k n : Nat} (h : k ≤ n) : (sq f k n).length = n := by unfold sq; rw [List.length_append, List.length_range', List.length_replicate]; omega
theorem sq_all (f n : Nat) : sq f n n = List.range' f n := by unfold sq; simp
theorem sq_set {f k n : Nat} (h : k < n) : (sq f k n).set k (f + k) = sq f (k + 1) n := by
  unfold sq
  obtain ⟨r, hr⟩ : ∃ r, n - k = r + 1 := ⟨n - k - 1, by omega⟩
  have hr2 : n - (k + 1) = r := by omega
  rw [hr, hr2, List.range'_concat, List.replicate_succ, List.set_append_right _ _ (by simp)]
  simp
theorem run_up (f n : Nat) : K.Up (List.range' f n) := List.pairwise_lt_range'
theorem gp_run : ∀ (n a : Nat), gp a (List.range' a n) = List.replicate n 0
  | 0, _ => rfl
  | n + 1, a => by
    rw [List.range'_succ, List.replicate_succ]
    show (a - a) :: gp (a + 1) (List.range' (a + 1) n) = _
    rw [gp_run n (a + 1), Nat.sub_self]
theorem ebs_zero : ∀ (n : Nat), ebs (List.replicate n 0) = List.replicate n 0
  | 0 => rfl
  | n + 1 => by rw [List.replicate_succ, ebs_cons, ebs_zero n, enc_lt (by decide)]; rfl
theorem bts_run (f p : Nat) (zs : List (Nat × Nat)) (hz : zs.map (·.1) = List.range' f (p + 1)) : bts false zs = ([0] ++ enc (p + 1)) ++ enc f ++ List.replicate p 0 := by
  have hl : zs.length = p + 1 := by have := congrArg List.length hz; rw [List.length_map, List.length_range'] at this; exact this
  rw [bts_gaps, hz, hl, List.range'_succ]
  show 0 :: (enc (p + 1) ++ ebs ((f - 0) :: gp (f + 1) (List.range' (f + 1) p))) = _
  rw [gp_run, ebs_cons, ebs_zero]
  simp
theorem mk_words0 (n : Nat) (hn : n ≤ 1000000) (w : World) : (Instr.makeSlice 24 (.int .i64 (n : Int)) (.int .i64 (n : Int))).run Try.prog w = .ok (.slice (some ⟨w.heap.size, 0, none⟩) n n) (w.alloc (.cells (Array.replicate n (.int .u64 0)) 22)) := by
  obtain ⟨ti, hi, hb, hz, hsz⟩ : ∃ ti, Try.prog.info? 22 = some ti ∧ ti.bytes = 8 ∧ ti.zero = some (.int .u64 0) ∧ ti.size = 1 := ⟨_, rfl, rfl, rfl, rfl⟩
  have := run_make (P := Try.prog) w 24 22 ti _ (by kernel_rfl) hi hz .i64 .i64 (n : Int) (n : Int) (by omega) (by omega) (by rw [hb]; omega) (by omega)
  have e : madeCells #[.int .u64 0] n = Array.replicate n (.int .u64 0) := by
    apply Array.ext
    · simp [madeCells]
    · intro i h1 h2
      simp [madeCells, Nat.mod_one]
  rw [← e]
  simpa [hsz, Value.cells] using this
theorem mod3S (d m : Nat) (hm : d % 3 = m) : (d : Int).tmod 3 = (m : Int) ∧ (d : Int) % 3 = (m : Int) := by
  constructor
  · rw [Int.tmod_eq_emod_of_nonneg (by omega)]; omega
  · omega
theorem mod40S (d m : Nat) (hm : d % 1099511627776 = m) : (d : Int).tmod 1099511627776 = (m : Int) ∧ (d : Int) % 1099511627776 = (m : Int) := by
  constructor
  · rw [Int.tmod_eq_emod_of_nonneg (by omega)]; omega
  · omega
theorem add_w {f k : Nat} (hf : f < 1099511627776) (hk : k ≤ 1000000) : IntKind.u64.wrap ((f : Int) + (k : Int)) = ((f + k : Nat) : Int) := by simp [IntKind.wrap, IntKind.signed, IntKind.bits]; omega
theorem add_w2 {f n p : Nat} (hf : f < 1099511627776) (hk : n ≤ 1000000) (h : n = p + 1) : IntKind.u64.wrap (((f + n : Nat) : Int) - 1) = ((f + p : Nat) : Int) := by simp [IntKind.wrap, IntKind.signed, IntKind.bits]; omega
theorem add_w3 {f n p : Nat} (hf : f < 1099511627776) (hk : n ≤ 1000000) (h : n = p + 1) : IntKind.u64.wrap ((f : Int) + (n : Int) - 1) = ((f + p : Nat) : Int) := by simp [IntKind.wrap, IntKind.signed, IntKind.bits]; omega
theorem u64_w {k : Nat} (hk : k ≤ 1000000) : IntKind.u64.wrap (k : Int) = (k : Int) := by simp [IntKind.wrap, IntKind.signed, IntKind.bits]; omega
set_option maxRecDepth 100000 in
set_option maxHeartbeats 8000000 in
theorem law_limits (more first : Nat) (hmore : more < 256) (w : World) :
    Calls Try.prog 6 #[.int .u8 (more : Int), .int .u64 (first : Int)] w fun e w' => e = .returned (.bool true) ∧ Below w.heap.size w w' := by
  obtain ⟨k0, hk0, hb0, hb1z, hb2z⟩ := info_parts byte_info
  obtain ⟨m3, hm3⟩ : ∃ m, more % 3 = m := ⟨_, rfl⟩
  obtain ⟨f, hf⟩ : ∃ m, first % 1099511627776 = m := ⟨_, rfl⟩
  obtain ⟨a1, a2⟩ := mod3S more m3 hm3
  obtain ⟨a3, a4⟩ := mod40S first f hf
  have hm33 : m3 < 3 := by omega
  have hf40 : f < 1099511627776 := by omega
  obtain ⟨n, hn⟩ : ∃ n, n = 262143 + m3 := ⟨_, rfl⟩
  have wm : IntKind.i64.wrap (m3 : Int) = (m3 : Int) := IntWalk.i64_in _ (by omega)
  have wn : IntKind.i64.wrap (262143 + (m3 : Int)) = (n : Int) := by rw [IntWalk.i64_in _ (by omega)]; omega
  have hn1 : 1 ≤ n := by omega
  have hn2 : n ≤ 262145 := by omega
  have hmk := mk_words0 n (by omega)
  clear hm3 hf hn hm33 hmore
  go_enter Try.func6, Try.ntmps6
  go_wp2_with (go_at_call 8; (with_reducible refine (awake_any _).mono ?_); rintro e W1 ⟨rfl, h⟩; have H1 := Lib.hid h; clear h)
  have HD : Hid (w.heap.size ≤ W1.heap.size) := H1.out.size
  have HW2 : Hid (WW (W1.alloc (.cells (Array.replicate n (.int .u64 0)) 22)) W1.heap.size (sq f 0 n)) := Lib.hid (by
    have := K.alloc_top W1 (.cells (Array.replicate n (.int .u64 0)) 22)
    unfold WW
    rw [this]
    unfold sq
    simp [wv])
  have HB2 : Hid (Below w.heap.size w (W1.alloc (.cells (Array.replicate n (.int .u64 0)) 22))) := Lib.hid (H1.out.alloc HD.out _)
  generalize (W1.alloc (.cells (Array.replicate n (.int .u64 0)) 22)) = W2 at *
  generalize W1.heap.size = D at *
  clear H1 hmk a1 a2 a3 a4 wm wn
  go_loopw [29] (fun u wr => ∃ k : Nat, u = .int .i64 (k : Int) ∧ k ≤ n ∧ Hid (WW wr D (sq f k n)) ∧ Hid (Below w.heap.size w wr)) (fun u _ => n - (intOf u).toNat)
  case atStart => exact ⟨0, rfl, by omega, HW2, HB2⟩
  case round =>
    obtain ⟨k, rfl, hk, HW, HB⟩ := hrel
    clear HW2 HB2
    by_cases hlt : k < n
    · have T1 : decide ((k : Int) < (n : Int)) = true := decide_eq_true (by omega)
      have wk1 : IntKind.i64.wrap ((k : Int) + 1) = (k : Int) + 1 := IntWalk.i64_in _ (by omega)
      have wk2 := u64_w (k := k) (by omega)
      have wk3 := add_w (f := f) (k := k) hf40 (by omega)
      have hfr := HW.out.fr k
      have hct := HW.out.there (k := k) (by rw [sq_len hk]; exact hlt)
      have hki : (k : Int) < (n : Int) := by omega
      have HS : Hid (WW (wr.setCell ⟨D, k, none⟩ (.int .u64 ((f + k : Nat) : Int))) D (sq f (k + 1) n)) := Lib.hid (by have := HW.out.set k (f + k); rw [sq_set hlt] at this; exact this)
      have HBS : Hid (Below w.heap.size w (wr.setCell ⟨D, k, none⟩ (.int .u64 ((f + k : Nat) : Int)))) := Lib.hid (HB.out.trans ((chg_set wr D k (.int .u64 ((f + k : Nat) : Int)) (· = D) rfl).below (B := w.heap.size) HB.out.size (fun j e => by have e2 : j = D := e; have := HD.out; omega)))
      generalize f + k = v at *
      go_wp2
      go_roundw
      case rel => exact ⟨k + 1, by go_num, by omega, HS, HBS⟩
      case measure => simp [intOf]; omega
    · have hkn : n = k := by omega
      subst hkn
      have hX := HW.out
      rw [sq_all] at hX
      obtain ⟨p, hp⟩ : ∃ p, n = p + 1 := ⟨n - 1, by omega⟩
      obtain ⟨xs, hxs⟩ : ∃ xs, List.range' f n = xs := ⟨_, rfl⟩
      obtain ⟨zs, hzs⟩ : ∃ zs, (xs.map fun x => (x, 0)) = zs := ⟨_, rfl⟩
      rw [hxs] at hX
      have hxl : xs.length = n := by rw [← hxs, List.length_range']
      have hzl : zs.length = n := by rw [← hzs, List.length_map, hxl]
      have hzk : zs.map (·.1) = xs := by rw [← hzs, List.map_map]; exact List.map_id' _
      have hxu : K.Up xs := by rw [← hxs]; exact run_up f n
      have hxb : ∀ x ∈ xs, x < 18446744073709551616 := fun x hx => by
        rw [← hxs] at hx
        have := (List.mem_range'_1.1 hx).2
        omega
      have hzb : ∀ x ∈ zs, x.1 < 18446744073709551616 ∧ x.2 < 18446744073709551616 := fun x hx => by
        rw [← hzs] at hx
        obtain ⟨y, hy, rfl⟩ := List.mem_map.1 hx
        exact ⟨hxb y hy, by show 0 < _; decide⟩
      have q1 : Rs 0 zs := rs_of zs 0 (by rw [hzk]; exact hxu) (fun x hx => ⟨Nat.zero_le _, hzb x hx⟩)
      have q2 : Vd false zs := fun _ x hx => by rw [← hzs] at hx; obtain ⟨y, _, rfl⟩ := List.mem_map.1 hx; rfl
      obtain ⟨B, hB⟩ : ∃ B, bts false zs = B := ⟨_, rfl⟩
      have hby : ∀ x ∈ B, x < 256 := by rw [← hB]; exact bts_byte _ _
      have HS : Hid (Bb wr wr [] [(.slice (some ⟨D, 0, none⟩) n n, xs)]) := Lib.hid ⟨Below.refl _ _, (fun p hp => by cases hp), fun p hp => by
        obtain rfl : p = (.slice (some ⟨D, 0, none⟩) n n, xs) := by simpa using hp
        exact hX.kx hxl (by omega)⟩
      have T1 : decide ((n : Int) < (n : Int)) = false := by simp
      have wnp : IntKind.i64.wrap ((n : Int) - 1) = (p : Int) := by rw [IntWalk.i64_in _ (by omega)]; omega
      by_cases hbig : n ≤ 262144
      · have T2 : decide (262144 < (n : Int)) = false := decide_eq_false (by omega)
        have T3 : decide (262144 < n) = false := decide_eq_false (by omega)
        obtain ⟨b, hb⟩ : ∃ b, B.length = b := ⟨_, rfl⟩
        have hbl : b ≤ 100000000 := by
          rw [← hb, ← hB, gaps_len]
          have h1 := szs_le (xs := zs.length :: gp 0 (zs.map (·.1))) (fun x hx => by
            rcases List.mem_cons.1 hx with rfl | hx
            · omega
            · exact gp_lt _ 0 (by rw [hzk]; exact hxb) x hx)
          rw [List.length_cons, gp_len, List.length_map] at h1
          omega
        have CK : Hid (∀ W M, Bb wr W M [(.slice (some ⟨D, 0, none⟩) n n, xs)] → Calls Try.prog 18 #[.slice (some ⟨D, 0, none⟩) n n] W fun e w' => ∃ A' c', e = .returned (.tuple #[.slice A' b c', .int .i64 0]) ∧ Bb wr w' ((.slice A' b c', B) :: M) [(.slice (some ⟨D, 0, none⟩) n n, xs)]) := Lib.hid fun W M h => by have := bb_keys_up h (A := some ⟨D, 0, none⟩) (n := n) (c := n) (b := b) (zs := zs) (by simp) hzk hxu hbig hxb (by rw [hB, hb]); rw [hB] at this; exact this
        have P1 : Hid (∀ W M N A c, Bb wr W M N → (Value.slice A b c, B) ∈ M → Calls Try.prog 21 #[.slice A b c] W fun e w' => ∃ A' c', e = .returned (.tuple #[.slice A' n c', .bool false, .int .i64 0]) ∧ Pq w' w'.heap.size A' zs ∧ Bb wr w' M N ∧ Below W.heap.size W w') := Lib.hid fun W M N A c h hm => bb_parse_yes h hm hbl hby (by rw [← hB]; exact ps_yes q1 (by omega) q2) hzl
        have HZ : Hid (∀ W A, Pq W W.heap.size A zs → ∃ b off, A = some ⟨b, off, none⟩ ∧ W.cell? ⟨b, off, none⟩ = some (.int .u64 (f : Int)) ∧ W.cell? ⟨b, off + p * 2, none⟩ = some (.int .u64 ((f + p : Nat) : Int))) := Lib.hid fun W A h => by
          obtain ⟨b1, o1, e1, _, c1, _⟩ := h.at (k := 0) (by omega)
          obtain ⟨b2, o2, e2, _, c2, _⟩ := h.at (k := p) (by omega)
          rw [e1] at e2
          simp only [Option.some.injEq, Addr.mk.injEq] at e2
          obtain ⟨rfl, rfl, _⟩ := e2
          have z0 : zs[0]'(by omega) = (f, 0) := by subst hzs; subst hxs; simp
          have zp : zs[p]'(by omega) = (f + p, 0) := by subst hzs; subst hxs; simp
          rw [z0] at c1
          rw [zp] at c2
          exact ⟨b1, o1, e1, by simpa using c1, c2⟩
        have wl1 := add_w (f := f) (k := n) hf40 (by omega)
        have wl2 := add_w2 (f := f) (n := n) (p := p) hf40 (by omega) hp
        have wl3 := add_w3 (f := f) (n := n) (p := p) hf40 (by omega) hp
        have wu := u64_w (k := n) (by omega)
        have hpi : (p : Int) < (n : Int) := by omega
        have hpn : p < n := by omega
        have hn0 : (0 : Int) < (n : Int) := by omega
        have HBE := HB
        clear hX hxs hzs hxl hzl hzk hxu hxb hzb q1 q2 hB hby hb hbl HW HB hlt hk hp
        generalize f + n = fn at *
        generalize f + p = fp at *
        go_wp2_with (first
          | (go_at_call 18; (with_reducible refine (CK.out _ _ HS.out).mono ?_); rintro e w5 ⟨A5, c5, rfl, h⟩; have H5 := Lib.hid h; clear h)
          | (go_at_call 21; (with_reducible refine (P1.out _ _ _ _ _ H5.out (by simp)).mono ?_); rintro e w6 ⟨A6, c6, rfl, hq, h, _⟩; obtain ⟨bz, oz, rfl, hz0, hz1⟩ := HZ.out _ _ hq; have H6 := Lib.hid h; clear h hq))
        go_ret
        exact ⟨rfl, HBE.out.trans (H6.out.low.mono HBE.out.size)⟩
      · have T2 : decide (262144 < (n : Int)) = true := decide_eq_true (by omega)
        have T3 : decide (262144 < n) = true := decide_eq_true (by omega)
        have CK : Hid (∀ W M, Bb wr W M [(.slice (some ⟨D, 0, none⟩) n n, xs)] → Calls Try.prog 18 #[.slice (some ⟨D, 0, none⟩) n n] W fun e w' => e = .returned (.tuple #[.slice none 0 0, .int .i64 1]) ∧ Bb wr w' M [(.slice (some ⟨D, 0, none⟩) n n, xs)]) := Lib.hid fun W M h => bb_keys_many h (A := some ⟨D, 0, none⟩) (n := n) (c := n) (by simp) hxu (by omega) (by omega) hxb
        have HNU : Hid (∀ v : Nat, v < 18446744073709551616 → ∀ W, Calls Try.prog 14 #[.int .u64 (v : Int)] W fun e w' => ∃ v', e = .returned v' ∧ w'.ownsRow W.heap.size 5 1 v' (enc v).length (bv (enc v)) ∧ Below W.heap.size W w') := Lib.hid fun v hv W => refnum_any v v (Nat.le_refl _) hv W
        obtain ⟨l1, hl1⟩ : ∃ l, (enc n).length = l := ⟨_, rfl⟩
        obtain ⟨l2, hl2⟩ : ∃ l, (enc f).length = l := ⟨_, rfl⟩
        have hl1b : l1 ≤ 10 := by have := szs_le (xs := [n]) (by simp; omega); simp [szs] at this; omega
        have hl2b : l2 ≤ 10 := by have := szs_le (xs := [f]) (by simp; omega); simp [szs] at this; omega
        have hBr : B = ([0] ++ enc n) ++ enc f ++ List.replicate p 0 := by rw [← hB, hp]; exact bts_run f p zs (by rw [hzk, ← hxs, hp])
        obtain ⟨lb, hlb⟩ : ∃ l, l = 1 + l1 + l2 + p := ⟨_, rfl⟩
        have hBl : B.length = lb := by rw [hBr, List.length_append, List.length_append, List.length_append, List.length_replicate, hl1, hl2, hlb]; rfl
        have hn64 : n < 18446744073709551616 := by omega
        have hf64 : f < 18446744073709551616 := by omega
        have CN := Lib.hid (HNU.out n hn64)
        have CF := Lib.hid (HNU.out f hf64)
        rw [hl1] at CN
        rw [hl2] at CF
        have P1 : Hid (∀ W M N A c, Bb wr W M N → (Value.slice A lb c, B) ∈ M → Calls Try.prog 21 #[.slice A lb c] W fun e w' => e = .returned (.tuple #[.slice none 0 0, .bool false, .int .i64 2]) ∧ Bb wr w' M N) := Lib.hid fun W M N A c h hm => bb_parse_no h hm (by omega) hby (by rw [← hB]; exact ps_long q1 (by omega) q2)
        have HBV : Hid (bv B = (([.int .u8 0] ++ bv (enc n)) ++ bv (enc f)) ++ (List.replicate p 0).map fun a : Nat => Value.int .u8 (a : Int)) := Lib.hid (by rw [hBr]; simp [bv])
        have HBLN := Lib.hid hBl
        have wu := u64_w (k := n) (by omega)
        have hp0 : 0 < p := by omega
        have hp6 : p ≤ 262144 := by omega
        have hlbe := Lib.hid hlb
        have m1 : 1 + l1 ≤ maxLen := by unfold maxLen; omega
        have m2 : (1 + l1) * 1 ≤ 140737488355328 := by omega
        have m3 : 1 + l1 + l2 ≤ maxLen := by unfold maxLen; omega
        have m4 : (1 + l1 + l2) * 1 ≤ 140737488355328 := by omega
        have m5 : 1 + l1 + l2 + p ≤ maxLen := by unfold maxLen; omega
        have m6 : (1 + l1 + l2 + p) * 1 ≤ 140737488355328 := by omega
        have m7 : 0 < 1 + l1 + l2 := by omega
        have z1 : ∀ u ∈ (List.replicate p 0).map (fun a : Nat => Value.int .u8 (a : Int)), u.oneCell' = true := fun u hu => by obtain ⟨y, _, rfl⟩ := List.mem_map.1 hu; rfl
        have o1 := bv_one (enc n)
        have o2 := bv_one (enc f)
        have HBE := HB
        clear hX hxs hzs hxl hzl hzk hxu hxb hzb q1 q2 hB hby HW HB hlt hk hp hBr hBl hlb hl1 hl2 hl1b hl2b HNU hn64 hf64
        generalize bv (enc n) = en at *
        generalize bv (enc f) = ef at *
        go_wp2_with (first
          | (go_at_call 18; (with_reducible refine (CK.out _ _ HS.out).mono ?_); rintro e w5 ⟨rfl, h⟩; have H5 := Lib.hid h; have O6 := Lib.hid (own_lit1 w5 (.int .u8 0) 5); have B6 : Hid (Below w5.heap.size w5 (w5.alloc (.cells #[.int .u8 0] 5))) := Lib.hid ((Below.refl _ w5).alloc (Nat.le_refl _) _); clear h)
          | (go_at_call 14; (with_reducible refine (CN.out _).mono ?_); rintro e w7 ⟨v7, rfl, ho, hb⟩; obtain ⟨A7, c7, rfl⟩ := K.own_form ho; have R7 := Lib.hid (Reads.of_own ho); have O7 := Lib.hid (own_bel O6.out hb); have B7 : Hid (Below w5.heap.size w5 w7) := Lib.hid (B6.out.trans (hb.mono B6.out.size)); have S7 : Hid (w5.heap.size ≤ w7.heap.size) := Lib.hid B7.out.size; clear ho hb)
          | (at_builtin; refine wpList_append_any _ rfl (.tmp 47) (.tmp 50) 23 rfl w5.heap.size 5 k0 _ 1 1 Try.underlying23 hk0 hb0 hb1z hb2z rfl (by decide) (.slice (some ⟨w5.heap.size, 0, none⟩) 1 1) 1 [.int .u8 0] (by rfl) O7.out w7.heap.size A7 l1 c7 en (by rfl) R7.out o1 m1 m2 S7.out ?_; intro v8 w8 h8 g8 _; obtain ⟨A8, c8, rfl⟩ := K.own_form h8; have O8 := Lib.hid h8; have B8 : Hid (Below w5.heap.size w5 w8) := Lib.hid (B7.out.grown g8 S7.out (fun g e => (O7.out.lt g e).1)); clear h8 g8)
          | (go_at_call 14; (with_reducible refine (CF.out _).mono ?_); rintro e w9 ⟨v9, rfl, ho, hb⟩; obtain ⟨A9, c9, rfl⟩ := K.own_form ho; have R9 := Lib.hid (Reads.of_own ho); have O9 := Lib.hid (own_bel O8.out hb); have B9 : Hid (Below w5.heap.size w5 w9) := Lib.hid (B8.out.trans (hb.mono B8.out.size)); have S9 : Hid (w5.heap.size ≤ w9.heap.size) := Lib.hid B9.out.size; clear ho hb)
          | (at_builtin; refine wpList_append_any _ rfl (.tmp 52) (.tmp 54) 23 rfl w5.heap.size 5 k0 _ 1 1 Try.underlying23 hk0 hb0 hb1z hb2z rfl (by decide) (.slice A8 (1 + l1) c8) (1 + l1) ([.int .u8 0] ++ en) (by rfl) O9.out w9.heap.size A9 l2 c9 ef (by rfl) R9.out o2 m3 m4 S9.out ?_; intro v10 w10 h10 g10 _; obtain ⟨A10, c10, rfl⟩ := K.own_form h10; have O10 := Lib.hid h10; have B10 : Hid (Below w5.heap.size w5 w10) := Lib.hid (B9.out.grown g10 S9.out (fun g e => (O9.out.lt g e).1)); have S10 : Hid (w5.heap.size ≤ w10.heap.size) := Lib.hid B10.out.size; clear h10 g10)
          | (at_builtin; obtain ⟨v11, w11, hr, ho, hg⟩ := run_zeros_own (P := Try.prog) w10 w5.heap.size 23 3 23 5 k0 (.int .u8 0) 1 1 .i64 .i64 Try.underlying23 Try.underlying3 hk0 hb0 hb1z hb2z rfl (by decide) (.slice A10 (1 + l1 + l2) c10) (1 + l1 + l2) (([.int .u8 0] ++ en) ++ ef) O10.out m7 p hp0 _ (zeros_u8 p) z1 m5 m6 S10.out; refine Go.Lib.wpList_append_run _ rfl (.tmp 55) (.tmp 57) 23 3 rfl _ _ rfl rfl v11 w11 hr ?_; obtain ⟨A11, c11, rfl⟩ := K.own_form ho; have B11 : Hid (Below w5.heap.size w5 w11) := Lib.hid (B10.out.grown hg S10.out (fun g e => (O10.out.lt g e).1)); rw [← HBV.out, ← hlbe.out] at ho; rw [← hlbe.out]; have H11 : Hid (Bb wr w11 [(.slice A11 lb c11, B)] [(.slice (some ⟨D, 0, none⟩) n n, xs)]) := Lib.hid (H5.out.push B11.out (show BX w11 (.slice A11 lb c11) B by rw [BX, HBLN.out]; exact own_less ho (Nat.zero_le _))); clear ho hg hr)
          | (go_at_call 21; (with_reducible refine (P1.out _ _ _ _ _ H11.out (by simp)).mono ?_); rintro e w12 ⟨rfl, h⟩; have H12 := Lib.hid h; clear h))
        go_ret
        exact ⟨rfl, HBE.out.trans (H12.out.low.mono HBE.out.size)⟩
end E
end Go.Proofs.Ytclaejaicjmohaa
