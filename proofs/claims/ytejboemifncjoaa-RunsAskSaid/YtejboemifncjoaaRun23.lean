
/- Acts one behind another, on runs and on the document's set; the law RunsPlay; the text walked. -/
import Derived.Test.YtejboemifncjoaaRun22
namespace Go.Proofs.Ytejboemifncjoaa
open Go.RowKit
abbrev AcB := Nat × Nat × Nat × Nat
/-- The slice at P reads as these acts, in cells below block B. -/
def Rk (w : World) (B : Nat) (P : Option Addr) (xs : List AcB) : Prop :=
  (∀ x ∈ xs, x.1 < 256 ∧ x.2.1 ≤ 65535 ∧ x.2.2.1 ≤ 65535 ∧ x.2.2.2 ≤ 65535) ∧ (xs ≠ [] → ∃ b off, P = some ⟨b, off, none⟩ ∧ b < B ∧ ∀ (k : Nat) (h : k < xs.length),
    w.cell? ⟨b, off + k * 4, none⟩ = some (.int .u8 (xs[k].1 : Nat)) ∧ w.cell? ⟨b, off + k * 4 + 1, none⟩ = some (.int .u16 (xs[k].2.1 : Nat)) ∧ w.cell? ⟨b, off + k * 4 + 2, none⟩ = some (.int .u16 (xs[k].2.2.1 : Nat)) ∧ w.cell? ⟨b, off + k * 4 + 3, none⟩ = some (.int .u16 (xs[k].2.2.2 : Nat)))
theorem Rk.below {w w' : World} {B B' : Nat} {P : Option Addr} {xs : List AcB} (h : Rk w B P xs) (hb : Below B' w w') (hB : B ≤ B') : Rk w' B P xs := ⟨h.1, fun hne => by
  obtain ⟨b, off, rfl, hlt, hc⟩ := h.2 hne
  refine ⟨b, off, rfl, hlt, fun k hk => ?_⟩
  have hl : b < B' := by omega
  obtain ⟨h1, h2, h3, h4⟩ := hc k hk
  exact ⟨(hb.cell (p := ⟨b, off + k * 4, none⟩) hl).trans h1, (hb.cell (p := ⟨b, off + k * 4 + 1, none⟩) hl).trans h2, (hb.cell (p := ⟨b, off + k * 4 + 2, none⟩) hl).trans h3, (hb.cell (p := ⟨b, off + k * 4 + 3, none⟩) hl).trans h4⟩⟩
theorem Rk.later {w w1 : World} {P : Option Addr} {xs : List AcB} (h : Rk w w.heap.size P xs) (hb : Below w.heap.size w w1) : Rk w1 w1.heap.size P xs := ⟨h.1, fun hne => by
  obtain ⟨b, off, rfl, hlt, hc⟩ := (h.below hb (Nat.le_refl _)).2 hne
  exact ⟨b, off, rfl, Nat.lt_of_lt_of_le hlt hb.size, hc⟩⟩
theorem Rk.at {w : World} {B : Nat} {P : Option Addr} {xs : List AcB} (h : Rk w B P xs) {k : Nat} (hk : k < xs.length) : ∃ b off, P = some ⟨b, off, none⟩ ∧ b < B ∧
    w.cell? ⟨b, off + k * 4, none⟩ = some (.int .u8 (xs[k].1 : Nat)) ∧ w.cell? ⟨b, off + k * 4 + 1, none⟩ = some (.int .u16 (xs[k].2.1 : Nat)) ∧ w.cell? ⟨b, off + k * 4 + 2, none⟩ = some (.int .u16 (xs[k].2.2.1 : Nat)) ∧ w.cell? ⟨b, off + k * 4 + 3, none⟩ = some (.int .u16 (xs[k].2.2.2 : Nat)) := by
  obtain ⟨b, off, rfl, hb, hc⟩ := h.2 (by intro e; subst e; simp at hk)
  exact ⟨b, off, rfl, hb, hc k hk⟩
theorem do_any (w : World) (B n c g m : Nat) (A : Option Addr) (rs : List (Int × Int)) (bs : List Bool) (hn : n = rs.length) (hr : Rq w B A rs) (hB : B ≤ w.heap.size) (hcap : n ≤ c) (hg : Rn.Ok rs) (hb : Bs w g m bs) (hv : ∀ x, x ∈ M.L bs ↔ Rn.V rs x) (d a b S : Nat) (hd : d < 256) (ha : a ≤ 65535) (hb' : b ≤ 65535) (hS : S ≤ 65535)
    (hlim : d % 5 = 4 → ∀ k, M.Stops a b (2 + S % 9) k → k ≤ 200) : Calls Try.prog 33 #[.slice A n c, .slice (some ⟨g, 0, none⟩) m m, actB d a b S] w (DoR w g m) := by
  rcases (by omega : d % 5 = 0 ∨ d % 5 = 1 ∨ d % 5 = 2 ∨ d % 5 = 3 ∨ d % 5 = 4) with h | h | h | h | h
  · exact do_0 w B n c g m A rs bs hn hr hB hcap hg hb hv d a b S hd ha hb' hS h
  · exact do_1 w B n c g m A rs bs hn hr hB hcap hg hb hv d a b S hd ha hb' hS h
  · exact do_2 w B n c g m A rs bs hn hr hB hcap hg hb hv d a b S hd ha hb' hS h
  · exact do_3 w B n c g m A rs bs hn hr hB hcap hg hb hv d a b S hd ha hb' hS h
  · exact do_4 w B n c g m A rs bs hn hr hB hcap hg hb hv d a b S hd ha hb' hS h (hlim h)
theorem few_steps {a b s k K : Nat} (_hs : 0 < s) (hK : K = 200 * s) (hb : b < a + K) (h : M.Stops a b s k) : k ≤ 200 := by
  rcases Nat.lt_or_ge 200 k with e | e
  · have h1 := h.1 (by omega)
    have h2 : s * 200 ≤ s * (k - 1) := Nat.mul_le_mul_left s (by omega)
    omega
  · exact e
theorem fz_of {w : World} {g : Nat} {cs : Array Value} {T : TypeId} (h : w.heap[g]? = some (.cells cs T (0, 0))) (k : Nat) : w.frozen? ⟨g, k, none⟩ = false := by simp [World.frozen?, h]
theorem set_act {w : World} {g d a b S : Nat} (b2 : Nat) (h : w.heap[g]? = some (actoB d a b S)) : (w.setCell ⟨g, 2, none⟩ (.int .u16 (b2 : Int))).heap[g]? = some (actoB d a b2 S) := by simp [World.setCell, Array.getElem?_modify, h]
/-- What 'lay' answers: runs and a set that are the same. -/
def LaidR (w : World) (e : Ending) (w' : World) : Prop := ∃ (rs : List (Int × Int)) (bs : List Bool) (A : Option Addr) (c g m : Nat), e = .returned (.tuple #[.slice A rs.length c, .slice (some ⟨g, 0, none⟩) m m]) ∧ rs.length ≤ c ∧ Rq w' w'.heap.size A rs ∧ Rn.Ok rs ∧ Bs w' g m bs ∧ (∀ x, x ∈ M.L bs ↔ Rn.V rs x) ∧ Below w.heap.size w w'
set_option maxHeartbeats 16000000 in
set_option maxRecDepth 100000 in
theorem lay_any (w : World) (P : Option Addr) (cp : Nat) (xs : List AcB) (hr : Rk w w.heap.size P xs) (_hl : xs.length ≤ 9223372036854775807) :
    Calls Try.prog 8 #[.slice P xs.length cp] w (LaidR w) := by
  have hrH := Lib.hid hr
  clear hr
  have hnew2 := fun W => Lib.hid (f_new W)
  go_enter Try.func8, Try.ntmps8
  go_wp2_with (go_at_call 32; (with_reducible refine (hnew2 _).out.mono ?_); rintro e w2 ⟨g, m, rfl, hbs, hg2, hg⟩; have HS := Lib.hid hbs; have HG2 := Lib.hid (show Below w.heap.size w w2 from ⟨hg2.os, hg2.tape, hg2.output, hg2.size, fun k hk => hg2.block k hk (by simp)⟩); have HGW := Lib.hid hg; clear hbs hg2 hg)
  go_loopw [4, 12] (fun vl vi wr => ∃ (k : Nat) (rs : List (Int × Int)) (bs : List Bool) (A : Option Addr) (c : Nat), k ≤ xs.length ∧ vi = .int .i64 (k : Int) ∧ vl = .slice A rs.length c ∧ rs.length ≤ c ∧ Hid (Rq wr wr.heap.size A rs) ∧ Hid (Rn.Ok rs) ∧ Hid (Bs wr g m bs) ∧ Hid (∀ x, x ∈ M.L bs ↔ Rn.V rs x) ∧ Hid (Below w.heap.size w wr)) (fun _ vi _ => xs.length - (intOf vi).toNat)
  case atStart => exact ⟨0, [], List.replicate m false, none, 0, Nat.zero_le _, rfl, rfl, Nat.le_refl _, Lib.hid (Rq.nil _ _ _), Lib.hid Rn.Ok.nil, HS, Lib.hid (fun x => by rw [M.L_false]; exact iff_of_false (by simp) (Rn.V_nil x)), HG2⟩
  case round =>
    obtain ⟨k, rs, bs, A, c, hk, rfl, rfl, hcap, HRQ, HOK, HBS, HV, HW⟩ := hrel
    have hc6 : rs.length ≤ 65536 := ok_len HOK.out
    by_cases hlt : k < xs.length
    · have hzr := HW.out.size
      obtain ⟨b0, off, rfl, hb0, c0, c1, c2, c3⟩ := (hrH.out.below HW.out (Nat.le_refl _)).at hlt
      obtain ⟨hx1, hx2, hx3, hx4⟩ := hrH.out.1 xs[k] (List.getElem_mem hlt)
      generalize xs[k].1 = d at *
      generalize xs[k].2.1 = a at *
      generalize xs[k].2.2.1 = b at *
      generalize xs[k].2.2.2 = S at *
      have hkl : (k : Int) < (xs.length : Int) := by omega
      have b1 := (Below.refl wr.heap.size wr).alloc (Nat.le_refl _) (actoB d a b S)
      have HB1 := Lib.hid b1
      by_cases h10 : k < 10
      · have hTb : decide ((10 : Int) ≤ (k : Int)) = false := decide_eq_false (by omega)
        obtain ⟨r, hr5⟩ : ∃ r, d % 5 = r := ⟨_, rfl⟩
        obtain ⟨e1, e2⟩ := mod5 d hx1 r hr5
        by_cases hr4 : r = 4
        · subst hr4
          obtain ⟨s1, s2, s3⟩ := rem9 S hx4
          obtain ⟨q, hq⟩ : ∃ q, S % 9 = q := ⟨_, rfl⟩
          rw [hq] at s1 s2 s3
          have HQ := Lib.hid hq
          clear hq
          have w1 : IntKind.i64.wrap (q : Int) = (q : Int) := IntWalk.i64_in _ (by omega)
          have w2' : IntKind.i64.wrap (2 + (q : Int)) = 2 + (q : Int) := IntWalk.i64_in _ (by omega)
          obtain ⟨K, hK⟩ : ∃ K, K = 200 * (2 + q) := ⟨_, rfl⟩
          have w3 : IntKind.i64.wrap (200 * (2 + (q : Int))) = (K : Int) := by rw [IntWalk.i64_in _ (by omega)]; omega
          have hK1 : K ≤ 2000 := by omega
          have hK0 : 400 ≤ K := by omega
          have w4 : IntKind.u16.wrap (K : Int) = (K : Int) := u16_in (by omega) (by omega)
          have HKQ := Lib.hid hK
          clear hK
          by_cases hab : a < b
          · have hdab : decide ((a : Int) < (b : Int)) = true := decide_eq_true (by omega)
            have hdab2 : decide (a < b) = true := decide_eq_true hab
            have w5 : IntKind.u16.wrap ((b : Int) - (a : Int)) = (b : Int) - (a : Int) := u16_in (by omega) (by omega)
            by_cases hge : a + K ≤ b
            · have hdge : decide ((K : Int) ≤ (b : Int) - (a : Int)) = true := decide_eq_true (by omega)
              have w6 : IntKind.u16.wrap ((a : Int) + (K : Int)) = (a : Int) + (K : Int) := u16_in (by omega) (by omega)
              obtain ⟨b2, hb2⟩ : ∃ b2, b2 = a + K - 1 := ⟨_, rfl⟩
              have w7 : IntKind.u16.wrap ((a : Int) + (K : Int) - 1) = (b2 : Int) := by rw [u16_in (by omega) (by omega)]; omega
              have HLIM : Hid (d % 5 = 4 → ∀ k, M.Stops a b2 (2 + S % 9) k → k ≤ 200) := Lib.hid (fun _ k h => by rw [HQ.out] at h; exact few_steps (by omega) HKQ.out (by omega) h)
              have hb2l : b2 ≤ 65535 := by omega
              have HBX := Lib.hid ((Below.refl wr.heap.size wr).alloc (Nat.le_refl _) (actoB d a b2 S))
              clear hb2 b1
              have HDO := Lib.hid (do_any (wr.alloc (actoB d a b2 S)) wr.heap.size rs.length c g m A rs bs rfl (HRQ.out.below HBX.out (Nat.le_refl _)) HBX.out.size hcap HOK.out (HBS.out.all_below HBX.out) HV.out d a b2 S hx1 hx2 (by omega) hx4 HLIM.out)
              go_wp2_with (go_at_call 33; (with_reducible refine HDO.out.mono ?_); rintro e w5 ⟨val, qs, cs', rfl, h1, h2, h3, h4, h5⟩
                           obtain ⟨A5, c5, hv5, r5, hc5⟩ := Rq.of_own h3
                           subst hv5
                           have K1 := Lib.hid h1
                           have K2 := Lib.hid h2
                           have K3 := Lib.hid r5
                           have K4 := Lib.hid h4
                           have K5 : Hid (Below w.heap.size w w5) := Lib.hid (HW.out.trans ((HBX.out.mono HW.out.size).trans (h5 w.heap.size (Nat.le_trans HW.out.size HBX.out.size) HGW.out)))
                           clear h1 h2 h3 h4 h5 r5 HDO)
              go_roundw
              case rel => exact ⟨k + 1, qs, cs', A5, c5, by omega, by go_num, rfl, hc5, K3, K1, K4, K2, K5⟩
              case measure => simp [intOf]; omega
            · have hdge : decide ((K : Int) ≤ (b : Int) - (a : Int)) = false := decide_eq_false (by omega)
              have HLIM : Hid (d % 5 = 4 → ∀ k, M.Stops a b (2 + S % 9) k → k ≤ 200) := Lib.hid (fun _ k h => by rw [HQ.out] at h; exact few_steps (by omega) HKQ.out (by omega) h)
              have HDO := Lib.hid (do_any (wr.alloc (actoB d a b S)) wr.heap.size rs.length c g m A rs bs rfl (HRQ.out.below HB1.out (Nat.le_refl _)) HB1.out.size hcap HOK.out (HBS.out.all_below HB1.out) HV.out d a b S hx1 hx2 (by omega) hx4 HLIM.out)
              go_wp2_with (go_at_call 33; (with_reducible refine HDO.out.mono ?_); rintro e w5 ⟨val, qs, cs', rfl, h1, h2, h3, h4, h5⟩
                           obtain ⟨A5, c5, hv5, r5, hc5⟩ := Rq.of_own h3
                           subst hv5
                           have K1 := Lib.hid h1
                           have K2 := Lib.hid h2
                           have K3 := Lib.hid r5
                           have K4 := Lib.hid h4
                           have K5 : Hid (Below w.heap.size w w5) := Lib.hid (HW.out.trans ((HB1.out.mono HW.out.size).trans (h5 w.heap.size (Nat.le_trans HW.out.size HB1.out.size) HGW.out)))
                           clear h1 h2 h3 h4 h5 r5 HDO)
              go_roundw
              case rel => exact ⟨k + 1, qs, cs', A5, c5, by omega, by go_num, rfl, hc5, K3, K1, K4, K2, K5⟩
              case measure => simp [intOf]; omega
          · have hdab : decide ((a : Int) < (b : Int)) = false := decide_eq_false (by omega)
            have hdab2 : decide (a < b) = false := decide_eq_false hab
            have HLIM : Hid (d % 5 = 4 → ∀ k, M.Stops a b (2 + S % 9) k → k ≤ 200) := Lib.hid (fun _ k h => by rw [HQ.out] at h; exact few_steps (by omega) HKQ.out (by omega) h)
            have HDO := Lib.hid (do_any (wr.alloc (actoB d a b S)) wr.heap.size rs.length c g m A rs bs rfl (HRQ.out.below HB1.out (Nat.le_refl _)) HB1.out.size hcap HOK.out (HBS.out.all_below HB1.out) HV.out d a b S hx1 hx2 (by omega) hx4 HLIM.out)
            go_wp2_with (go_at_call 33; (with_reducible refine HDO.out.mono ?_); rintro e w5 ⟨val, qs, cs', rfl, h1, h2, h3, h4, h5⟩
                         obtain ⟨A5, c5, hv5, r5, hc5⟩ := Rq.of_own h3
                         subst hv5
                         have K1 := Lib.hid h1
                         have K2 := Lib.hid h2
                         have K3 := Lib.hid r5
                         have K4 := Lib.hid h4
                         have K5 : Hid (Below w.heap.size w w5) := Lib.hid (HW.out.trans ((HB1.out.mono HW.out.size).trans (h5 w.heap.size (Nat.le_trans HW.out.size HB1.out.size) HGW.out)))
                         clear h1 h2 h3 h4 h5 r5 HDO)
            go_roundw
            case rel => exact ⟨k + 1, qs, cs', A5, c5, by omega, by go_num, rfl, hc5, K3, K1, K4, K2, K5⟩
            case measure => simp [intOf]; omega
        · have hr4b : ((r : Int) == 4) = false := by rw [beq_eq_false_iff_ne]; omega
          have HLIM : Hid (d % 5 = 4 → ∀ k, M.Stops a b (2 + S % 9) k → k ≤ 200) := Lib.hid (fun h => by omega)
          clear hr5
          have HDO := Lib.hid (do_any (wr.alloc (actoB d a b S)) wr.heap.size rs.length c g m A rs bs rfl (HRQ.out.below HB1.out (Nat.le_refl _)) HB1.out.size hcap HOK.out (HBS.out.all_below HB1.out) HV.out d a b S hx1 hx2 (by omega) hx4 HLIM.out)
          go_wp2_with (go_at_call 33; (with_reducible refine HDO.out.mono ?_); rintro e w5 ⟨val, qs, cs', rfl, h1, h2, h3, h4, h5⟩
                       obtain ⟨A5, c5, hv5, r5, hc5⟩ := Rq.of_own h3
                       subst hv5
                       have K1 := Lib.hid h1
                       have K2 := Lib.hid h2
                       have K3 := Lib.hid r5
                       have K4 := Lib.hid h4
                       have K5 : Hid (Below w.heap.size w w5) := Lib.hid (HW.out.trans ((HB1.out.mono HW.out.size).trans (h5 w.heap.size (Nat.le_trans HW.out.size HB1.out.size) HGW.out)))
                       clear h1 h2 h3 h4 h5 r5 HDO)
          go_roundw
          case rel => exact ⟨k + 1, qs, cs', A5, c5, by omega, by go_num, rfl, hc5, K3, K1, K4, K2, K5⟩
          case measure => simp [intOf]; omega
      · have hTb : decide ((10 : Int) ≤ (k : Int)) = true := decide_eq_true (by omega)
        go_wp2
        go_ret2
        exact ⟨rs, bs, A, c, g, m, rfl, hcap, (HRQ.out.below HB1.out (Nat.le_refl _)).more HB1.out.size, HOK.out, HBS.out.all_below HB1.out, HV.out, HW.out.trans (HB1.out.mono HW.out.size)⟩
    · go_wp2
      go_ret2
      exact ⟨rs, bs, A, c, g, m, rfl, hcap, HRQ.out, HOK.out, HBS.out, HV.out, HW.out⟩
set_option maxHeartbeats 4000000 in
theorem law_play (P : Option Addr) (cp : Nat) (xs : List AcB) (w : World) (hr : Rk w w.heap.size P xs) (hl : xs.length ≤ 9223372036854775807) :
    Calls Try.prog 3 #[.slice P xs.length cp] w fun e w' => e = .returned (.bool true) ∧ Below w.heap.size w w' := by
  have hrH := Lib.hid hr
  clear hr
  go_enter Try.func3, Try.ntmps3
  go_wp2_with (go_at_call 7; (with_reducible refine (awake_any w).mono ?_); rintro e w1 ⟨rfl, hb1⟩)
  have HB1 := Lib.hid hb1
  have HLY := Lib.hid (lay_any w1 P cp xs (hrH.out.later hb1) hl)
  clear hb1
  go_wp2_with (first
    | (go_at_call 8; (with_reducible refine HLY.out.mono ?_); rintro e w2 ⟨rs, bs, A, c, g, m, rfl, hcap, h1, h2, h3, h4, h5⟩
       have HS := Lib.hid (r_same w2 w2.heap.size rs.length c g m A rs bs rfl h1 (Nat.le_refl _) h2 h3 h4)
       have HB2 := Lib.hid (HB1.out.trans (h5.mono HB1.out.size))
       clear h1 h2 h3 h4 h5 HLY)
    | (go_at_call 9; (with_reducible refine HS.out.mono ?_); rintro e w3 ⟨rfl, h6⟩; replace h6 := Lib.hid h6))
  go_ret
  exact ⟨rfl, HB2.out.trans (h6.out.mono HB2.out.size)⟩
end Go.Proofs.Ytejboemifncjoaa
