
/- array.join: two lists are gone through side by side; the text walked. -/
import Derived.Test.YtfccgefpchgdlaaArr7
namespace Go.Proofs.Ytfccgefpchgdlaa
open Go.RowKit
theorem cut_one (b off len c : Nat) (hk : 1 ≤ len) (hc : len ≤ c) : ∃ A3, (1 < len → A3 = some ⟨b, off + 1, none⟩) ∧
    (∀ w, (Instr.sliceAt 22 (.slice (some ⟨b, off, none⟩) len c) (some (.int .i64 1)) none none).run Try.prog w = .ok (.slice A3 (len - 1) (c - 1)) w) ∧
    (∀ w, (Instr.slice 22 (.slice (some ⟨b, off, none⟩) len c) (some (.int .i64 1)) none none).run Try.prog w = .ok (.slice A3 (len - 1) (c - 1)) w) := by
  have hu : Try.prog.underlying 22 = some (.slice (Try.prog.elem 22)) := by kernel_rfl
  have hz : ∀ w, (Go.sizeOf (Try.prog.elem 22)).run Try.prog w = .ok 1 w := fun w => Try.sizeOf30 w
  have h2 : ∀ w, (Instr.slice 22 (.slice (some ⟨b, off, none⟩) len c) (some (.int .i64 1)) none none).run Try.prog w = .ok (sliced (some ⟨b, off, none⟩) 1 len c 1) w := fun w => by
    have h := run_slice_l (P := Try.prog) (w := w) (t := 22) (a := some ⟨b, off, none⟩) (len := len) (cap := c) (ht := hu) (kl := .i64) (l := 1) (h0 := by omega) (h1 := by omega)
    rw [h, hz]
    simp [Result.andThen]
  refine ⟨if c = 1 then some ⟨b, off, none⟩ else (some (⟨b, off, none⟩ : Addr)).map (·.add (1 * 1)), fun h => ?_, fun w => ?_, fun w => (h2 w).trans rfl⟩
  · rw [if_neg (by omega)]
    rfl
  · exact (run_sliceAt_slice (w := w) (h := hu) ..).trans ((h2 w).trans rfl)
theorem rh_tail {w : World} {B b off n : Nat} {A3 : Option Addr} {x : Int} {l : List Int} (h : Rh w B (some ⟨b, off, none⟩) (x :: l)) (hn : n = (x :: l).length) (hA : 1 < n → A3 = some ⟨b, off + 1, none⟩) : Rh w B A3 l := by
  intro hne
  obtain ⟨b', off', e, hlt, hc⟩ := h (by simp)
  cases e
  have h1 : 1 < n := by rw [hn]; cases l with | nil => exact absurd rfl hne | cons _ _ => simp
  refine ⟨b, off + 1, hA h1, hlt, fun k hk => ?_⟩
  have := hc (k + 1) (by simpa using hk)
  rw [show off + 1 + k = off + (k + 1) by omega]
  simpa using this
def lenV : Value → Nat | .slice _ n _ => n | _ => 0
/-- What holds at each round. -/
structure JS (w : World) (B N : Nat) (p0 p1 p2 : Bool) (xs ys : List Int) (A1 : Option Addr) (n1 c1 : Nat) (A2 : Option Addr) (n2 c2 : Nat) (v : Value) (a b zs : List Int) (wr : World) : Prop where
  l1 : n1 = a.length
  l2 : n2 = b.length
  cap1 : n1 ≤ c1
  cap2 : n2 ≤ c2
  r1 : Rh w B A1 a
  r2 : Rh w B A2 b
  jn : M.Jn p0 p1 p2 xs ys a b zs
  own : wr.ownsRow w.heap.size 30 1 v zs.length (hv zs)
  bel : Below w.heap.size w wr
  few : zs.length + n1 + n2 ≤ N
set_option maxHeartbeats 40000000 in
set_option maxRecDepth 100000 in
theorem join_less (w : World) (B n1 c1 n2 c2 : Nat) (A1 A2 : Option Addr) (xs ys : List Int) (hB : B ≤ w.heap.size) (h1 : n1 = xs.length) (h2 : n2 = ys.length) (hc1 : n1 ≤ c1) (hc2 : n2 ≤ c2) (hr1 : Rh w B A1 xs) (hr2 : Rh w B A2 ys)
    (hs1 : xs.Pairwise (· < ·)) (hs2 : ys.Pairwise (· < ·)) (hn1 : n1 ≤ 1000000) (hn2 : n2 ≤ 1000000)
    (hf0 : ∀ W, Calls Try.prog 44 #[.int .i64 0] W fun e w' => e = .returned (.bool true) ∧ W = w')
    (hf1 : ∀ W, Calls Try.prog 44 #[.int .i64 1] W fun e w' => e = .returned (.bool false) ∧ W = w')
    (hf2 : ∀ W, Calls Try.prog 44 #[.int .i64 2] W fun e w' => e = .returned (.bool false) ∧ W = w') :
    Calls Try.prog 43 #[.slice A1 n1 c1, .slice A2 n2 c2, .func (.func 44) #[] #[]] w fun e w' => ∃ (v : Value) (zs : List Int), e = .returned v ∧ zs.Pairwise (· < ·) ∧ (∀ x, x ∈ zs ↔ M.Wt true false false xs ys x) ∧ zs.length ≤ n1 + n2 ∧
      w'.ownsRow w.heap.size 30 1 v zs.length (hv zs) ∧ Below w.heap.size w w' := by
  obtain ⟨i0, hi, hz0, hz1, hz2⟩ := info_parts u16_info
  have HI := Lib.hid hi
  have HZ0 := Lib.hid hz0
  have HZ1 := Lib.hid hz1
  have HZ2 := Lib.hid hz2
  have HFN0 := Lib.hid hf0
  have HFN1 := Lib.hid hf1
  have HFN2 := Lib.hid hf2
  obtain ⟨N, hN⟩ : ∃ N, N = n1 + n2 := ⟨_, rfl⟩
  have hNle : N ≤ 2000000 := by omega
  have H0 : Hid (JS w B N true false false xs ys A1 n1 c1 A2 n2 c2 (.slice none 0 0) xs ys [] w) := Lib.hid ⟨h1, h2, hc1, hc2, hr1, hr2, M.Jn.start hs1 hs2, ⟨rfl, .inl ⟨rfl, rfl⟩⟩, Below.refl _ _, by simp; omega⟩
  rw [← hN]
  have HB := Lib.hid hB
  clear hi hz0 hz1 hz2 hf0 hf1 hf2 h1 h2 hc1 hc2 hr1 hr2 hs1 hs2 hn1 hn2 hN hB
  go_enter Try.func43, Try.ntmps43
  go_wp2_with (fail)
  go_loopw [0, 1, 7] (fun v0 v1 v7 wr => ∃ (A1 : Option Addr) (n1 c1 : Nat) (A2 : Option Addr) (n2 c2 : Nat) (a b zs : List Int), v0 = .slice A1 n1 c1 ∧ v1 = .slice A2 n2 c2 ∧ Hid (JS w B N true false false xs ys A1 n1 c1 A2 n2 c2 v7 a b zs wr)) (fun v0 v1 _ _ => lenV v0 + lenV v1)
  case atStart => exact ⟨_, _, _, _, _, _, xs, ys, [], rfl, rfl, H0⟩
  case round =>
    obtain ⟨A1, n1, c1, A2, n2, c2, a, b, zs, rfl, rfl, H⟩ := hrel
    obtain ⟨v7, hv7⟩ : ∃ v7, v7 = u7 := ⟨_, rfl⟩
    subst hv7
    have hfew := H.out.few
    have hcp1 := H.out.cap1
    have hcp2 := H.out.cap2
    have OW0 : ∀ q, (wr.drewN q).ownsRow w.heap.size 30 1 v7 zs.length (hv zs) := fun _ => H.out.own
    have BE : ∀ q, Below w.heap.size w (wr.drewN q) := fun q => ⟨H.out.bel.os, H.out.bel.tape, H.out.bel.output, H.out.bel.size, H.out.bel.block⟩
    have HOW := Lib.hid OW0
    have HBE := Lib.hid BE
    clear OW0 BE
    cases a with
    | nil =>
      obtain rfl : n1 = 0 := by have := H.out.l1; simpa using this
      cases b with
      | nil =>
        obtain rfl : n2 = 0 := by have := H.out.l2; simpa using this
        go_wp2_with (fail)
        go_ret
        exact ⟨v7, zs, rfl, H.out.jn.done.1, H.out.jn.done.2, by have := H.out.few; omega, H.out.own, H.out.bel⟩
      | cons y b =>
        have hp2 : 1 ≤ n2 := by have := H.out.l2; rw [List.length_cons] at this; omega
        have hk2 := H.out.r2.below H.out.bel HB.out
        obtain ⟨b2, off2, hA2, _⟩ := H.out.r2 (by simp)
        subst hA2
        have K2 := Lib.hid hk2
        clear hk2
        obtain ⟨A2', hA2, hsA21, hsA22⟩ := cut_one b2 off2 n2 c2 (by omega) (by omega)
        obtain ⟨n2', hdn2⟩ : ∃ n2', n2 - 1 = n2' := ⟨_, rfl⟩
        obtain ⟨c2', hdc2⟩ : ∃ c2', c2 - 1 = c2' := ⟨_, rfl⟩
        rw [hdn2, hdc2] at hsA21 hsA22
        have HAA2 := Lib.hid hA2
        have HDn2 := Lib.hid hdn2
        have HDc2 := Lib.hid hdc2
        clear hA2 hdn2 hdc2
        go_wp2_with (first
          | (go_at_call 51; (with_reducible refine (least_two wr B n2 c1 c2 A1 (some ⟨b2, off2, none⟩) y b K2.out (by omega) (by omega)).mono ?_); rintro e w1 ⟨rfl, q1, rfl⟩)
          | (go_at_call 44; (with_reducible refine (HFN1.out _).mono ?_); rintro e w2 ⟨rfl, rfl⟩))
        go_roundw
        case rel => exact ⟨A1, 0, c1, A2', n2', c2', [], b, zs, rfl, rfl, Lib.hid ⟨H.out.l1, (by have h1 := H.out.l2; have h2 := HDn2.out; rw [List.length_cons] at h1; omega), H.out.cap1, (by have h1 := HDn2.out; have h2 := HDc2.out; omega), H.out.r1, (rh_tail H.out.r2 H.out.l2 HAA2.out), (H.out.jn.two (fun z hz => by cases hz)), (HOW.out q1), (HBE.out q1), (by have h0 := H.out.few; have hb := HDn2.out; omega)⟩⟩
        case measure => simp [lenV]; have hb := HDn2.out; omega
    | cons x a =>
      have hp1 : 1 ≤ n1 := by have := H.out.l1; rw [List.length_cons] at this; omega
      have hk1 := H.out.r1.below H.out.bel HB.out
      obtain ⟨b1, off1, hA1, _⟩ := H.out.r1 (by simp)
      subst hA1
      have K1 := Lib.hid hk1
      clear hk1
      cases b with
      | nil =>
        obtain rfl : n2 = 0 := by have := H.out.l2; simpa using this
        obtain ⟨A1', hA1, hsA11, hsA12⟩ := cut_one b1 off1 n1 c1 (by omega) (by omega)
        obtain ⟨n1', hdn1⟩ : ∃ n1', n1 - 1 = n1' := ⟨_, rfl⟩
        obtain ⟨c1', hdc1⟩ : ∃ c1', c1 - 1 = c1' := ⟨_, rfl⟩
        rw [hdn1, hdc1] at hsA11 hsA12
        have HAA1 := Lib.hid hA1
        have HDn1 := Lib.hid hdn1
        have HDc1 := Lib.hid hdc1
        clear hA1 hdn1 hdc1
        go_wp2_with (first
          | (go_at_call 51; (with_reducible refine (least_one wr B n1 c1 c2 (some ⟨b1, off1, none⟩) A2 x a K1.out (by omega) (by omega)).mono ?_); rintro e w1 ⟨rfl, q1, rfl⟩)
          | (go_at_call 44; (with_reducible refine (HFN0.out _).mono ?_); rintro e w2 ⟨rfl, rfl⟩)
          | (at_builtin; refine wpList_append_own _ rfl _ _ 22 rfl w.heap.size 30 i0 (.int .u16 0) 1 2 Try.underlying22 HI.out HZ0.out HZ1.out HZ2.out rfl (by decide) _ _ _ rfl ((HOW.out q1).alloc _) ⟨wr.heap.size, 0, none⟩ 1 1 [.int .u16 x] rfl rfl (cell_oneB _ _ _) (one_intB _ _) (by unfold maxLen; have h0 := H.out.few; omega) (by have h0 := H.out.few; omega) (by have h0 := H.out.bel.size; simp; omega) ?_; intro v' w3 ow1 gr1 _; obtain ⟨ow2, be2⟩ := own_snocH (HBE.out q1) (HOW.out q1) ow1 gr1; replace ow2 := Lib.hid ow2; replace be2 := Lib.hid be2; clear ow1 gr1))
        go_roundw
        case rel => exact ⟨A1', n1', c1', A2, 0, c2, a, [], (zs ++ [x]), rfl, rfl, Lib.hid ⟨(by have h1 := H.out.l1; have h2 := HDn1.out; rw [List.length_cons] at h1; omega), H.out.l2, (by have h1 := HDn1.out; have h2 := HDc1.out; omega), H.out.cap2, (rh_tail H.out.r1 H.out.l1 HAA1.out), H.out.r2, (H.out.jn.one (fun z hz => by cases hz)), ow2.out, be2.out, (by have h0 := H.out.few; have ha := HDn1.out; rw [List.length_append, List.length_singleton]; omega)⟩⟩
        case measure => simp [lenV]; have ha := HDn1.out; omega
      | cons y b =>
        have hp2 : 1 ≤ n2 := by have := H.out.l2; rw [List.length_cons] at this; omega
        have hk2 := H.out.r2.below H.out.bel HB.out
        obtain ⟨b2, off2, hA2, _⟩ := H.out.r2 (by simp)
        subst hA2
        have K2 := Lib.hid hk2
        clear hk2
        rcases Int.lt_trichotomy x y with hxy | hxy | hyx
        · have hx1 : x < y := hxy
          obtain ⟨A1', hA1, hsA11, hsA12⟩ := cut_one b1 off1 n1 c1 (by omega) (by omega)
          obtain ⟨n1', hdn1⟩ : ∃ n1', n1 - 1 = n1' := ⟨_, rfl⟩
          obtain ⟨c1', hdc1⟩ : ∃ c1', c1 - 1 = c1' := ⟨_, rfl⟩
          rw [hdn1, hdc1] at hsA11 hsA12
          have HAA1 := Lib.hid hA1
          have HDn1 := Lib.hid hdn1
          have HDc1 := Lib.hid hdc1
          clear hA1 hdn1 hdc1
          go_wp2_with (first
            | (go_at_call 51; (with_reducible refine (least_any wr B n1 n2 c1 c2 (some ⟨b1, off1, none⟩) (some ⟨b2, off2, none⟩) x y a b K1.out K2.out (by omega) (by omega) (by omega) (by omega)).mono ?_); rintro e w1 ⟨rfl, q1, rfl⟩)
            | (go_at_call 44; (with_reducible refine (HFN0.out _).mono ?_); rintro e w2 ⟨rfl, rfl⟩)
            | (at_builtin; refine wpList_append_own _ rfl _ _ 22 rfl w.heap.size 30 i0 (.int .u16 0) 1 2 Try.underlying22 HI.out HZ0.out HZ1.out HZ2.out rfl (by decide) _ _ _ rfl ((HOW.out q1).alloc _) ⟨wr.heap.size, 0, none⟩ 1 1 [.int .u16 x] rfl rfl (cell_oneB _ _ _) (one_intB _ _) (by unfold maxLen; have h0 := H.out.few; omega) (by have h0 := H.out.few; omega) (by have h0 := H.out.bel.size; simp; omega) ?_; intro v' w3 ow1 gr1 _; obtain ⟨ow2, be2⟩ := own_snocH (HBE.out q1) (HOW.out q1) ow1 gr1; replace ow2 := Lib.hid ow2; replace be2 := Lib.hid be2; clear ow1 gr1))
          go_roundw
          case rel => exact ⟨A1', n1', c1', (some ⟨b2, off2, none⟩), n2, c2, a, (y :: b), (zs ++ [x]), rfl, rfl, Lib.hid ⟨(by have h1 := H.out.l1; have h2 := HDn1.out; rw [List.length_cons] at h1; omega), H.out.l2, (by have h1 := HDn1.out; have h2 := HDc1.out; omega), H.out.cap2, (rh_tail H.out.r1 H.out.l1 HAA1.out), H.out.r2, (H.out.jn.one (fun z hz => by cases hz; exact hxy)), ow2.out, be2.out, (by have h0 := H.out.few; have ha := HDn1.out; rw [List.length_append, List.length_singleton]; omega)⟩⟩
          case measure => simp [lenV]; have ha := HDn1.out; omega
        · subst hxy
          obtain ⟨A1', hA1, hsA11, hsA12⟩ := cut_one b1 off1 n1 c1 (by omega) (by omega)
          obtain ⟨n1', hdn1⟩ : ∃ n1', n1 - 1 = n1' := ⟨_, rfl⟩
          obtain ⟨c1', hdc1⟩ : ∃ c1', c1 - 1 = c1' := ⟨_, rfl⟩
          rw [hdn1, hdc1] at hsA11 hsA12
          have HAA1 := Lib.hid hA1
          have HDn1 := Lib.hid hdn1
          have HDc1 := Lib.hid hdc1
          clear hA1 hdn1 hdc1
          obtain ⟨A2', hA2, hsA21, hsA22⟩ := cut_one b2 off2 n2 c2 (by omega) (by omega)
          obtain ⟨n2', hdn2⟩ : ∃ n2', n2 - 1 = n2' := ⟨_, rfl⟩
          obtain ⟨c2', hdc2⟩ : ∃ c2', c2 - 1 = c2' := ⟨_, rfl⟩
          rw [hdn2, hdc2] at hsA21 hsA22
          have HAA2 := Lib.hid hA2
          have HDn2 := Lib.hid hdn2
          have HDc2 := Lib.hid hdc2
          clear hA2 hdn2 hdc2
          go_wp2_with (first
            | (go_at_call 51; (with_reducible refine (least_any wr B n1 n2 c1 c2 (some ⟨b1, off1, none⟩) (some ⟨b2, off2, none⟩) x x a b K1.out K2.out (by omega) (by omega) (by omega) (by omega)).mono ?_); rintro e w1 ⟨rfl, q1, rfl⟩)
            | (go_at_call 44; (with_reducible refine (HFN2.out _).mono ?_); rintro e w2 ⟨rfl, rfl⟩))
          go_roundw
          case rel => exact ⟨A1', n1', c1', A2', n2', c2', a, b, zs, rfl, rfl, Lib.hid ⟨(by have h1 := H.out.l1; have h2 := HDn1.out; rw [List.length_cons] at h1; omega), (by have h1 := H.out.l2; have h2 := HDn2.out; rw [List.length_cons] at h1; omega), (by have h1 := HDn1.out; have h2 := HDc1.out; omega), (by have h1 := HDn2.out; have h2 := HDc2.out; omega), (rh_tail H.out.r1 H.out.l1 HAA1.out), (rh_tail H.out.r2 H.out.l2 HAA2.out), H.out.jn.both, (HOW.out q1), (HBE.out q1), (by have h0 := H.out.few; have ha := HDn1.out; have hb := HDn2.out; omega)⟩⟩
          case measure => simp [lenV]; have ha := HDn1.out; have hb := HDn2.out; omega
        · have hy1 : ¬ x < y := by omega
          obtain ⟨A2', hA2, hsA21, hsA22⟩ := cut_one b2 off2 n2 c2 (by omega) (by omega)
          obtain ⟨n2', hdn2⟩ : ∃ n2', n2 - 1 = n2' := ⟨_, rfl⟩
          obtain ⟨c2', hdc2⟩ : ∃ c2', c2 - 1 = c2' := ⟨_, rfl⟩
          rw [hdn2, hdc2] at hsA21 hsA22
          have HAA2 := Lib.hid hA2
          have HDn2 := Lib.hid hdn2
          have HDc2 := Lib.hid hdc2
          clear hA2 hdn2 hdc2
          go_wp2_with (first
            | (go_at_call 51; (with_reducible refine (least_any wr B n1 n2 c1 c2 (some ⟨b1, off1, none⟩) (some ⟨b2, off2, none⟩) x y a b K1.out K2.out (by omega) (by omega) (by omega) (by omega)).mono ?_); rintro e w1 ⟨rfl, q1, rfl⟩)
            | (go_at_call 44; (with_reducible refine (HFN1.out _).mono ?_); rintro e w2 ⟨rfl, rfl⟩))
          go_roundw
          case rel => exact ⟨(some ⟨b1, off1, none⟩), n1, c1, A2', n2', c2', (x :: a), b, zs, rfl, rfl, Lib.hid ⟨H.out.l1, (by have h1 := H.out.l2; have h2 := HDn2.out; rw [List.length_cons] at h1; omega), H.out.cap1, (by have h1 := HDn2.out; have h2 := HDc2.out; omega), H.out.r1, (rh_tail H.out.r2 H.out.l2 HAA2.out), (H.out.jn.two (fun z hz => by cases hz; exact hyx)), (HOW.out q1), (HBE.out q1), (by have h0 := H.out.few; have hb := HDn2.out; omega)⟩⟩
          case measure => simp [lenV]; have hb := HDn2.out; omega
set_option maxHeartbeats 1000000 in
theorem fn_a_less0 (w : World) : Calls Try.prog 44 #[.int .i64 0] w fun e w' => e = .returned (.bool true) ∧ w = w' := by
  go_enter Try.func44, Try.ntmps44
  go_wp2
  go_ret
  exact ⟨by first | rfl | simp, rfl⟩
set_option maxHeartbeats 1000000 in
theorem fn_a_less1 (w : World) : Calls Try.prog 44 #[.int .i64 1] w fun e w' => e = .returned (.bool false) ∧ w = w' := by
  go_enter Try.func44, Try.ntmps44
  go_wp2
  go_ret
  exact ⟨by first | rfl | simp, rfl⟩
set_option maxHeartbeats 1000000 in
theorem fn_a_less2 (w : World) : Calls Try.prog 44 #[.int .i64 2] w fun e w' => e = .returned (.bool false) ∧ w = w' := by
  go_enter Try.func44, Try.ntmps44
  go_wp2
  go_ret
  exact ⟨by first | rfl | simp, rfl⟩
set_option maxHeartbeats 4000000 in
theorem a_less (w : World) (B n1 c1 n2 c2 : Nat) (A1 A2 : Option Addr) (xs ys : List Int) (hB : B ≤ w.heap.size) (h1 : n1 = xs.length) (h2 : n2 = ys.length) (hc1 : n1 ≤ c1) (hc2 : n2 ≤ c2) (hr1 : Rh w B A1 xs) (hr2 : Rh w B A2 ys)
    (hs1 : xs.Pairwise (· < ·)) (hs2 : ys.Pairwise (· < ·)) (hn1 : n1 ≤ 1000000) (hn2 : n2 ≤ 1000000) :
    Calls Try.prog 33 #[.slice A1 n1 c1, .slice A2 n2 c2] w fun e w' => ∃ (v : Value) (zs : List Int), e = .returned v ∧ zs.Pairwise (· < ·) ∧ (∀ x, x ∈ zs ↔ M.Wt true false false xs ys x) ∧ zs.length ≤ n1 + n2 ∧
      w'.ownsRow w.heap.size 30 1 v zs.length (hv zs) ∧ Below w.heap.size w w' := by
  have H := Lib.hid (join_less w B n1 c1 n2 c2 A1 A2 xs ys hB h1 h2 hc1 hc2 hr1 hr2 hs1 hs2 hn1 hn2 fn_a_less0 fn_a_less1 fn_a_less2)
  clear hB h1 h2 hc1 hc2 hr1 hr2 hs1 hs2 hn1 hn2
  go_enter Try.func33, Try.ntmps33
  go_wp2_with (go_at_call 43; (with_reducible refine H.out.mono ?_); rintro e w1 ⟨v, zs, rfl, g1, g2, g3, g4, g5⟩; replace g1 := Lib.hid g1; replace g2 := Lib.hid g2; replace g3 := Lib.hid g3; replace g4 := Lib.hid g4; replace g5 := Lib.hid g5)
  go_ret
  exact ⟨v, zs, rfl, g1.out, g2.out, g3.out, g4.out, g5.out⟩
end Go.Proofs.Ytfccgefpchgdlaa
