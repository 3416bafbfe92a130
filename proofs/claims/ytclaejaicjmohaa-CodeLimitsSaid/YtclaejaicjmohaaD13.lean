
/- The law CodeNumbers; the text walked. -/
import Derived.Test.YtclaejaicjmohaaD12
namespace Go.Proofs.Ytclaejaicjmohaa
set_option maxRecDepth 20000
open Go.RowKit
namespace E
theorem Bb.sub {w W : World} {M M' N N' : List (Value × List Nat)} (h : Bb w W M N) (hM : ∀ p ∈ M', p ∈ M) (hN : ∀ p ∈ N', p ∈ N) : Bb w W M' N' := ⟨h.low, fun p hp => h.bx p (hM p hp), fun p hp => h.kx p (hN p hp)⟩
theorem bb_app {w W W2 W3 : World} {M N : List (Value × List Nat)} (h : Bb w W M N) (hb : Below W.heap.size W W2) {A : Option Addr} {m n c : Nat} {xs ys zs : List Nat} {v : Value} (hg : W2.grownBy W3 (Value.slice A m c).ownBlock) (ho : W2.ownsRow W.heap.size 5 1 (.slice A m c) m (bv xs)) (h3 : W3.ownsRow W.heap.size 5 1 v (m + n) (bv xs ++ bv ys)) (hz : xs ++ ys = zs) (hl : zs.length = m + n) :
    Bb w W3 ((v, zs) :: M) N ∧ ∃ A' c', v = .slice A' (m + n) c' := by
  subst hz
  refine ⟨h.push (hb.grown hg hb.size (fun g e => (ho.lt g e).1)) ?_, own_formB h3⟩
  unfold BX
  rw [hl, bv, List.map_append]
  exact own_less h3 (Nat.zero_le _)
theorem rb_readsB {w W : World} {M N : List (Value × List Nat)} (h : Bb w W M N) {A : Option Addr} {n c : Nat} {xs : List Nat} (m : (Value.slice A n c, xs) ∈ M) {W2 : World} (hb : Below W.heap.size W W2) : Reads W2 W.heap.size 1 A n (bv xs) := by
  obtain ⟨e1, _, r1⟩ := h.rb m
  exact rb_reads (r1.below hb (Nat.le_refl _)) e1
set_option maxRecDepth 100000 in
set_option maxHeartbeats 8000000 in
theorem law_numbers (n : Nat) (hn : n < 18446744073709551616) (A1 : Option Addr) (c1 : Nat) (xs1 : List Nat) (A2 : Option Addr) (c2 : Nat) (xs2 : List Nat) (A3 : Option Addr) (c3 : Nat) (xs3 : List Nat) (w : World)
    (hr1 : Rb w w.heap.size A1 xs1) (hl1 : xs1.length ≤ 9223372036854775807) (hb1 : ∀ x ∈ xs1, x < 256) (hr2 : Rb w w.heap.size A2 xs2) (hl2 : xs2.length ≤ 9223372036854775807) (hb2 : ∀ x ∈ xs2, x < 256) (hr3 : Rw w w.heap.size A3 xs3) (hl3 : xs3.length ≤ 9223372036854775807) (hb3 : ∀ x ∈ xs3, x < 18446744073709551616) :
    Calls Try.prog 3 #[.int .u64 (n : Int), .slice A1 xs1.length c1, .slice A2 xs2.length c2, .slice A3 xs3.length c3] w fun e w' => e = .returned (.bool true) ∧ Below w.heap.size w w' := by
  obtain ⟨i0, hi, hz0, hz1, hz2⟩ := info_parts byte_info
  obtain ⟨rs, hrs⟩ : ∃ l, xs1.take 20 = l := ⟨_, rfl⟩
  obtain ⟨ra, hra⟩ : ∃ l, xs2.take 20 = l := ⟨_, rfl⟩
  obtain ⟨ls, hls⟩ : ∃ l, xs3.take 20 = l := ⟨_, rfl⟩
  obtain ⟨n1, hn1⟩ : ∃ n, rs.length = n := ⟨_, rfl⟩
  obtain ⟨n2, hn2⟩ : ∃ n, ra.length = n := ⟨_, rfl⟩
  obtain ⟨n3, hn3⟩ : ∃ n, ls.length = n := ⟨_, rfl⟩
  have f1 : n1 ≤ 20 := by rw [← hn1, ← hrs, List.length_take]; omega
  have f2 : n2 ≤ 20 := by rw [← hn2, ← hra, List.length_take]; omega
  have f3 : n3 ≤ 20 := by rw [← hn3, ← hls, List.length_take]; omega
  have hbs : ∀ x ∈ rs, x < 256 := fun x hx => hb1 x (List.mem_of_mem_take (by rw [hrs]; exact hx))
  have hba : ∀ x ∈ ra, x < 256 := fun x hx => hb2 x (List.mem_of_mem_take (by rw [hra]; exact hx))
  have hbl : ∀ x ∈ ls, x < 18446744073709551616 := fun x hx => hb3 x (List.mem_of_mem_take (by rw [hls]; exact hx))
  have h10 := enc_ten hn
  obtain ⟨m, hm⟩ : ∃ m, (enc n).length = m := ⟨_, rfl⟩
  rw [hm] at h10
  have HY1 : Hid (∀ W M N, Bb w W M N → Calls Try.prog 9 #[.slice A1 xs1.length c1, .int .i64 20] W fun e w' => ∃ A' c', e = .returned (.slice A' n1 c') ∧ Bb w w' ((.slice A' n1 c', rs) :: M) N) := Lib.hid fun W M N h => bb_bytes h A1 c1 xs1 20 hr1 hl1 (by decide) hrs hn1
  have HY2 : Hid (∀ W M N, Bb w W M N → Calls Try.prog 9 #[.slice A2 xs2.length c2, .int .i64 20] W fun e w' => ∃ A' c', e = .returned (.slice A' n2 c') ∧ Bb w w' ((.slice A' n2 c', ra) :: M) N) := Lib.hid fun W M N h => bb_bytes h A2 c2 xs2 20 hr2 hl2 (by decide) hra hn2
  have HY3 : Hid (∀ W M N, Bb w W M N → Calls Try.prog 10 #[.slice A3 xs3.length c3, .int .i64 20] W fun e w' => ∃ A' c', e = .returned (.slice A' n3 c') ∧ Bb w w' M ((.slice A' n3 c', ls) :: N)) := Lib.hid fun W M N h => bb_words h A3 c3 xs3 20 hr3 hl3 (by decide) hls hn3
  have HNm : Hid (∀ W M N, Bb w W M N → Calls Try.prog 11 #[.int .u64 (n : Int)] W fun e w' => ∃ A c, e = .returned (.slice A m c) ∧ Bb w w' ((.slice A m c, enc n) :: M) N) := Lib.hid fun W M N h => bb_number h hn hm
  have HRn : Hid (∀ W M N, Bb w W M N → Calls Try.prog 14 #[.int .u64 (n : Int)] W fun e w' => ∃ A c, e = .returned (.slice A m c) ∧ Bb w w' ((.slice A m c, enc n) :: M) N) := Lib.hid fun W M N h => bb_refnum h hn hm
  have HCp : Hid (∀ W M N A c, Bb w W M N → (Value.slice A m c, enc n) ∈ M → Calls Try.prog 9 #[.slice A m c, .int .i64 20] W fun e w' => ∃ A' c', e = .returned (.slice A' m c') ∧ w'.ownsRow W.heap.size 5 1 (.slice A' m c') m (bv (enc n)) ∧ Below W.heap.size W w') := Lib.hid fun W M N A c h hM => bb_copy h hM 20 (by omega) (by decide)
  obtain ⟨zs, hzs⟩ : ∃ z, enc n ++ rs = z := ⟨_, rfl⟩
  have hzl : zs.length = m + n1 := by rw [← hzs, List.length_append, hm, hn1]
  have hzb : ∀ x ∈ zs, x < 256 := fun x hx => by
    rw [← hzs] at hx
    rcases List.mem_append.1 hx with h | h
    · exact enc_byte n x h
    · exact hbs x h
  have hzd : zs.drop m = rs := by rw [← hzs, ← hm, List.drop_left]
  have hrdz : Rd zs n m := by rw [← hzs, ← hm]; exact Rd.enc (by omega) rs
  have hm1 : 0 < m := by rw [← hm]; exact enc_pos n
  have HRd : Hid (∀ W M N A c, Bb w W M N → (Value.slice A (m + n1) c, zs) ∈ M → Calls Try.prog 12 #[.slice A (m + n1) c] W fun e w' => ∃ A' c', e = .returned (.tuple #[.int .u64 (n : Int), .slice A' n1 c', .int .i64 0]) ∧ Bb w w' ((.slice A' n1 c', rs) :: M) N) := Lib.hid fun W M N A c h hM => bb_read_yes h hM (by omega) hzb hrdz hm1 hzd hn1
  have HS1 : Hid (∀ W M N A B c d, Bb w W M N → (Value.slice A m c, enc n) ∈ M → (Value.slice B m d, enc n) ∈ M → Calls Try.prog 13 #[.slice A m c, .slice B m d] W fun e w' => e = .returned (.bool true) ∧ Bb w w' M N) := Lib.hid fun W M N A B c d h h1 h2 => bb_same h h1 h2 (by omega) (by omega) (by simp)
  have HS2 : Hid (∀ W M N A B c d, Bb w W M N → (Value.slice A n1 c, rs) ∈ M → (Value.slice B n1 d, rs) ∈ M → Calls Try.prog 13 #[.slice A n1 c, .slice B n1 d] W fun e w' => e = .returned (.bool true) ∧ Bb w w' M N) := Lib.hid fun W M N A B c d h h1 h2 => bb_same h h1 h2 (by omega) (by omega) (by simp)
  obtain ⟨b, k, hrd⟩ := Rd.ex ra
  have hkn : k ≤ n2 := by rw [← hn2]; exact hrd.le
  obtain ⟨s, hs⟩ : ∃ s, szs ls = s := ⟨_, rfl⟩
  have HSZ : Hid (∀ W M N A c, Bb w W M N → (Value.slice A n3 c, ls) ∈ N → Calls Try.prog 16 #[.slice A n3 c] W fun e w' => e = .returned (.int .i64 (s : Int)) ∧ Bb w w' M N) := Lib.hid fun W M N A c h hM => bb_size h hM (by omega) hbl hs
  have HRr : Hid (∀ W M N A c, Bb w W M N → (Value.slice A n2 c, ra) ∈ M → Calls Try.prog 15 #[.slice A n2 c] W fun e w' => e = .returned (.tuple #[.int .u64 (b : Int), .int .i64 (k : Int)]) ∧ Bb w w' M N) := Lib.hid fun W M N A c h hM => bb_refread h hM (by omega) hrd
  obtain ⟨rb, hrb⟩ : ∃ r, ra.drop k = r := ⟨_, rfl⟩
  obtain ⟨rl, hrl⟩ : ∃ r, rb.length = r := ⟨_, rfl⟩
  have hrl2 : n2 - k = rl := by rw [← hrl, ← hrb, List.length_drop, hn2]
  have HRy : Hid (0 < k → ∀ W M N A c, Bb w W M N → (Value.slice A n2 c, ra) ∈ M → Calls Try.prog 12 #[.slice A n2 c] W fun e w' => ∃ A' c', e = .returned (.tuple #[.int .u64 (b : Int), .slice A' rl c', .int .i64 0]) ∧ Bb w w' ((.slice A' rl c', rb) :: M) N) := Lib.hid fun hk W M N A c h hM => bb_read_yes h hM (by omega) hba hrd hk hrb hrl
  have HRo : Hid (k = 0 → ∀ W M N A c, Bb w W M N → (Value.slice A n2 c, ra) ∈ M → Calls Try.prog 12 #[.slice A n2 c] W fun e w' => e = .returned (.tuple #[.int .u64 0, .slice none 0 0, .int .i64 2]) ∧ Bb w w' M N) := Lib.hid fun hk W M N A c h hM => bb_read_no h hM (by omega) hba (by rw [← hk]; exact hrd)
  have HSy : Hid (∀ W M N A B c d, Bb w W M N → (Value.slice A rl c, rb) ∈ M → (Value.slice B n2 d, ra) ∈ M → Calls Try.prog 13 #[.slice A rl c, .slice (cutA B k d) rl (d - k)] W fun e w' => e = .returned (.bool true) ∧ Bb w w' M N) := Lib.hid fun W M N A B c d h h1 h2 => by
    obtain ⟨e1, _, r1⟩ := h.rb h1
    obtain ⟨e2, hd, r2⟩ := h.rb h2
    have r3 := r2.drop (l := k) e2 hd
    rw [hrb] at r3
    have := ref_samebytes A (cutA B k d) c (d - k) rb rb W _ _ r1 r3 (by omega) (by omega)
    rw [hrl] at this
    refine this.mono ?_
    rintro e w' ⟨rfl, q, rfl⟩
    exact ⟨by simp, h.below (bel2 _ _)⟩
  have hb0 : k = 0 → b = 0 := fun h => by
    rcases hrd with ⟨h1, _⟩ | ⟨_, h2, _⟩
    · omega
    · exact h2
  have HB0 := Lib.hid hb0
  have HCUT : Hid (∀ B d, n2 ≤ d → (∀ w, (Instr.sliceAt 23 (.slice B n2 d) (some (.int .i64 (k : Int))) none none).run Try.prog w = .ok (.slice (cutA B k d) rl (d - k)) w) ∧ (∀ w, (Instr.slice 23 (.slice B n2 d) (some (.int .i64 (k : Int))) none none).run Try.prog w = .ok (.slice (cutA B k d) rl (d - k)) w)) := Lib.hid fun B d hd => by
    have := cutb_l B n2 d k (k : Int) rfl hkn
    rw [hrl2] at this
    exact this
  have HCC : Hid (∀ W M N A c, Bb w W M N → (Value.slice A n2 c, ra) ∈ M → n2 ≤ c) := Lib.hid fun W M N A c h hM => (h.rb hM).2.1
  have HL3 := Lib.hid hn3
  have HBL := Lib.hid hbl
  have HSS := Lib.hid hs
  have HSN : Hid (∀ x, x ∈ ls → ∀ W M N, Bb w W M N → Calls Try.prog 14 #[.int .u64 (x : Int)] W fun e w' => ∃ A c, e = .returned (.slice A (enc x).length c) ∧ Bb w w' M N) := Lib.hid fun x hx W M N h => (bb_refnum h (hbl x hx) rfl).mono fun e w' ⟨A, c, h1, h2⟩ => ⟨A, c, h1, h2.sub (fun p hp => List.mem_cons_of_mem _ hp) (fun p hp => hp)⟩
  have HZ := Lib.hid (And.intro hzs hzl)
  have q1 : ((n : Int) == (n : Int)) = true := by simp
  clear hn hr1 hr2 hr3 hl1 hl2 hl3 hb1 hb2 hb3 hrs hra hls hn1 hn2 hn3 hbs hba hbl hm hzs hzl hzb hzd hrdz hrd hs hrb hrl hb0
  generalize xs1.length = len1 at *
  generalize xs2.length = len2 at *
  generalize xs3.length = len3 at *
  go_enter Try.func3, Try.ntmps3
  go_wp2_with (first
    | (go_at_call 13; (with_reducible refine (HS2.out _ _ _ _ _ _ _ H10.out (by simp) (by simp)).mono ?_); rintro e W11 ⟨rfl, h⟩; have H11 := Lib.hid h; clear h)
    | (go_at_call 13; (with_reducible refine (HS1.out _ _ _ _ _ _ _ H9.out (by simp) (by simp)).mono ?_); rintro e W10 ⟨rfl, h⟩; have H10 := Lib.hid h; clear h)
    | (go_at_call 14; (with_reducible refine (HRn.out _ _ _ H8.out).mono ?_); rintro e W9 ⟨B9, d9, rfl, h⟩; have H9 := Lib.hid h; clear h)
    | (go_at_call 12; (with_reducible refine (HRd.out _ _ _ _ _ H7.out (by simp)).mono ?_); rintro e W8 ⟨B8, d8, rfl, h⟩; have H8 := Lib.hid h; clear h)
    | (at_builtin; refine wpList_append_any _ rfl (.tmp 33) (.tmp 34) 23 rfl W5.heap.size 5 i0 _ 1 1 Try.underlying23 hi hz0 hz1 hz2 rfl (by decide) (.slice B5 m d5) m (bv (enc n)) (by rfl) HO.out W5.heap.size B1 n1 d1 (bv rs) (by rfl) HRs.out (bv_one _) (by unfold maxLen; omega) (by omega) HSq.out ?_; intro v7 w7 hv7 hg7 _; obtain ⟨h, B7, d7, hv⟩ := bb_app H5.out HBc.out hg7 HO.out hv7 HZ.out.1 HZ.out.2; subst hv; have H7 := Lib.hid h; clear h hv7 hg7)
    | (go_at_call 9; (with_reducible refine (HCp.out _ _ _ _ _ H5.out (by simp)).mono ?_); rintro e W6 ⟨B5, d5, rfl, ho, hb⟩; have HO := Lib.hid ho; have HBc := Lib.hid hb; have HRs := Lib.hid (rb_readsB H5.out (A := B1) (n := n1) (c := d1) (xs := rs) (by simp) hb); have HSq := Lib.hid hb.size; clear ho hb)
    | (go_at_call 11; (with_reducible refine (HNm.out _ _ _ H4.out).mono ?_); rintro e W5 ⟨B4, d4, rfl, h⟩; have H5 := Lib.hid h; clear h)
    | (go_at_call 10; (with_reducible refine (HY3.out _ _ _ H3.out).mono ?_); rintro e W4 ⟨B3, d3, rfl, h⟩; have H4 := Lib.hid h; clear h)
    | (go_at_call 9; (with_reducible refine (HY2.out _ _ _ H2.out).mono ?_); rintro e W3 ⟨B2, d2, rfl, h⟩; have H3 := Lib.hid h; clear h)
    | (go_at_call 9; (with_reducible refine (HY1.out _ _ _ H1.out).mono ?_); rintro e W2 ⟨B1, d1, rfl, h⟩; have H2 := Lib.hid h; clear h)
    | (go_at_call 8; (with_reducible refine (awake_any _).mono ?_); rintro e W1 ⟨rfl, h⟩; have H1 : Hid (Bb w _ [] []) := Lib.hid ((Bb.start w).below h); clear h))
  have H12 : Hid (Bb w W11 [(.slice B2 n2 d2, ra)] [(.slice B3 n3 d3, ls)]) := Lib.hid (H11.out.sub (fun p hp => by rcases List.mem_singleton.1 hp with rfl; simp) (fun p hp => by rcases List.mem_singleton.1 hp with rfl; simp))
  clear H1 H2 H3 H4 H5 H7 H8 H9 H10 H11 HO HBc HRs HSq HY1 HY2 HY3 HNm HRn HCp HRd HS1 HS2 HZ
  go_loopw [13, 62] (fun v i wr => ∃ j : Nat, j ≤ n3 ∧ i = .int .i64 j ∧ v = .int .i64 (szs (ls.take j) : Nat) ∧ Hid (Bb w wr [(.slice B2 n2 d2, ra)] [(.slice B3 n3 d3, ls)])) (fun _ i _ => n3 - (intOf i).toNat)
  case atStart => exact ⟨0, by omega, rfl, rfl, H12⟩
  case round =>
    obtain ⟨j, hj, rfl, rfl, HK⟩ := hrel
    by_cases hlt : j < n3
    · have hlt' : j < ls.length := by rw [HL3.out]; exact hlt
      obtain ⟨_, hrw⟩ := HK.out.rw (A := B3) (n := n3) (c := d3) (xs := ls) (by simp)
      obtain ⟨b0, off, rfl, _, hc⟩ := hrw.at hlt'
      have dd0 : decide ((j : Int) < (n3 : Int)) = true := decide_eq_true (by omega)
      have wj : IntKind.i64.wrap ((j : Int) + 1) = (j : Int) + 1 := IntWalk.i64_in _ (by omega)
      have hx := HBL.out ls[j] (List.getElem_mem hlt')
      have hC := HSN.out ls[j] (List.getElem_mem hlt')
      have hs2 : szs (ls.take (j + 1)) = szs (ls.take j) + (enc ls[j]).length := by rw [take_snocN hlt', szs_snoc]
      have h10b := enc_ten hx
      have hle := szs_le (xs := ls.take j) (fun x h => HBL.out x (List.mem_of_mem_take h))
      rw [List.length_take] at hle
      have HS2 := Lib.hid hs2
      generalize ls[j] = x at *
      generalize szs (ls.take j) = s0 at *
      obtain ⟨mx, hmx⟩ : ∃ m, (enc x).length = m := ⟨_, rfl⟩
      rw [hmx] at h10b HS2 hC
      have w2 : IntKind.i64.wrap ((s0 : Int) + (mx : Int)) = (s0 : Int) + (mx : Int) := IntWalk.i64_in _ (by omega)
      have HC := Lib.hid hC
      clear hs2 hx hmx hrw hC
      go_wp2_with (go_at_call 14; (with_reducible refine (HC.out _ _ _ HK.out).mono ?_); rintro e w3 ⟨A9, c9, rfl, h⟩; have HK2 := Lib.hid h; clear h)
      go_roundw
      case rel => exact ⟨j + 1, by omega, by go_num, by rw [HS2.out]; simp, HK2⟩
      case measure => simp [intOf]; omega
    · have hjn : j = n3 := by omega
      have e1 : ls.take j = ls := List.take_of_length_le (by rw [HL3.out]; omega)
      rw [e1, HSS.out, hjn]
      have dd0 : decide ((n3 : Int) < (n3 : Int)) = false := by simp
      have q2 : ((s : Int) == (s : Int)) = true := by simp
      have q3 : ((b : Int) == (b : Int)) = true := by simp
      have hcc := HCC.out _ _ _ B2 d2 HK.out (by simp)
      have hcut := HCUT.out B2 d2 hcc
      have a1 := hcut.1
      have a2 := hcut.2
      clear e1 hlt hj hjn hcut hcc
      by_cases hk : k = 0
      · have hb := HB0.out hk
        have HR := Lib.hid (HRo.out hk)
        clear HRo HRy HB0 HSy a1 a2 HCUT
        subst hk hb
        have HRr0 : Hid (∀ W M N A c, Bb w W M N → (Value.slice A n2 c, ra) ∈ M → Calls Try.prog 15 #[.slice A n2 c] W fun e w' => e = .returned (.tuple #[.int .u64 0, .int .i64 0]) ∧ Bb w w' M N) := HRr
        go_wp2_with (first
          | (go_at_call 16; (with_reducible refine (HSZ.out _ _ _ _ _ H21.out (by simp)).mono ?_); rintro e W22 ⟨rfl, h⟩; have H22 := Lib.hid h; clear h)
          | (go_at_call 15; (with_reducible refine (HRr0.out _ _ _ _ _ H20.out (by simp)).mono ?_); rintro e W21 ⟨rfl, h⟩; have H21 := Lib.hid h; clear h)
          | (go_at_call 12; (with_reducible refine (HR.out _ _ _ _ _ HK.out (by simp)).mono ?_); rintro e W20 ⟨rfl, h⟩; have H20 := Lib.hid h; clear h))
        go_ret
        exact ⟨by simp, H22.out.low⟩
      · have hk1 : 0 < k := by omega
        have HR := Lib.hid (HRy.out hk1)
        have g1 : ((k : Int) == 0) = false := beq_eq_false_iff_ne.2 (by omega)
        have g2 : decide ((0 : Int) < (k : Int)) = true := decide_eq_true (by omega)
        have g3 : decide (0 < k) = true := decide_eq_true hk1
        clear HRo HRy HB0 hk
        go_wp2_with (first
          | (go_at_call 13; (with_reducible refine (HSy.out _ _ _ _ _ _ _ H22.out (by simp) (by simp)).mono ?_); rintro e W23 ⟨rfl, h⟩; have H23 := Lib.hid h; clear h)
          | (go_at_call 16; (with_reducible refine (HSZ.out _ _ _ _ _ H21.out (by simp)).mono ?_); rintro e W22 ⟨rfl, h⟩; have H22 := Lib.hid h; clear h)
          | (go_at_call 15; (with_reducible refine (HRr.out _ _ _ _ _ H20.out (by simp)).mono ?_); rintro e W21 ⟨rfl, h⟩; have H21 := Lib.hid h; clear h)
          | (go_at_call 12; (with_reducible refine (HR.out _ _ _ _ _ HK.out (by simp)).mono ?_); rintro e W20 ⟨B20, d20, rfl, h⟩; have H20 := Lib.hid h; clear h))
        go_ret
        exact ⟨by simp, H23.out.low⟩
end E
end Go.Proofs.Ytclaejaicjmohaa
