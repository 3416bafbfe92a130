
/- runs.Has, Next, Prev; the texts walked. -/
import Derived.Test.YtejboemifncjoaaRun23
namespace Go.Proofs.Ytejboemifncjoaa
open Go.RowKit
/-- What stands where, seen from v. -/
theorem parts_in {w w' : World} {B n c i j c2 c3 : Nat} {A A2 A3 : Option Addr} {rs : List (Int × Int)} {v : Int} (h : PartsP w B n c A rs v v i j A2 c2 A3 c3 w') : Rn.V rs v ↔ (rs.take j).drop i ≠ [] := by
  constructor
  · rintro ⟨r, hr, h1, h2⟩ he
    rw [← split3 (rs := rs) h.ij, he, List.append_nil] at hr
    rcases List.mem_append.1 hr with e | e
    · have := h.p1 r e; omega
    · have := h.p3 r e; omega
  · intro he
    obtain ⟨r, hr⟩ := List.exists_mem_of_ne_nil _ he
    have h1 := h.p2 r hr
    exact ⟨r, List.mem_of_mem_take (List.mem_of_mem_drop hr), h1.2, h1.1⟩
theorem in_parts {rs : List (Int × Int)} {i j : Nat} (hij : i ≤ j) {x : Int} : Rn.V rs x ↔ Rn.V (rs.take i) x ∨ Rn.V ((rs.take j).drop i) x ∨ Rn.V (rs.drop j) x := by
  conv => lhs; rw [← split3 (rs := rs) hij]
  rw [Rn.V_append, Rn.V_append, or_assoc]
theorem next_flat {rs : List (Int × Int)} (hg : Rn.Ok rs) {v y : Int} (hy : Rn.V rs y) (hvy : v ≤ y) (hm : ∀ z, Rn.V rs z → v ≤ z → y ≤ z) : M.rNext (Rn.flat rs) v = y :=
  M.next_of (Rn.flat_up hg) (Rn.mem_flat.2 hy) hvy fun z hz h => hm z (Rn.mem_flat.1 hz) h
theorem prev_flat {rs : List (Int × Int)} (hg : Rn.Ok rs) {v y : Int} (hy : Rn.V rs y) (hvy : y ≤ v) (hm : ∀ z, Rn.V rs z → z ≤ v → z ≤ y) : M.rPrev (Rn.flat rs) v = y :=
  M.prev_of (Rn.flat_up hg) (Rn.mem_flat.2 hy) hvy fun z hz h => hm z (Rn.mem_flat.1 hz) h
section
variable (w : World) (B n c : Nat) (A : Option Addr) (rs : List (Int × Int)) (v : Int) (hn : n = rs.length) (hr : Rq w B A rs) (hB : B ≤ w.heap.size) (hg : Rn.Ok rs) (hc : n ≤ c) (hv : 0 ≤ v ∧ v ≤ 65535)
include hn hr hB hg hc hv
set_option maxHeartbeats 4000000 in
set_option maxRecDepth 100000 in
theorem r_has (b : Bool) (hb : b = true ↔ Rn.V rs v) : Calls Try.prog 11 #[.slice A n c, .int .u16 v] w fun e w' => e = .returned (.bool b) ∧ Below w.heap.size w w' := by
  have HP := Lib.hid (r_parts w B n c A rs v v hn hr hB hg hc (by rw [hn]; exact Nat.le_trans (ok_len hg) (by omega)))
  have wv : IntKind.i64.wrap v = v := IntWalk.i64_in _ (by omega)
  have HN := Lib.hid hn
  have HBB := Lib.hid hb
  clear hn hr hB hg hc hb
  go_enter Try.func11, Try.ntmps11
  go_wp2_with (go_at_call 36; (with_reducible refine HP.out.mono ?_); rintro e w2 ⟨i, j, A2, c2, A3, c3, rfl, hPP⟩
               have hin := parts_in hPP
               have hlen : ((rs.take j).drop i).length = j - i := by rw [List.length_drop, List.length_take]; have := hPP.jn; have := HN.out; omega
               have hb2 : decide (0 < ((j - i : Nat) : Int)) = b := by
                 rw [Bool.eq_iff_iff, HBB.out, hin, decide_eq_true_eq, ← hlen]
                 exact ⟨fun h e => by rw [e] at h; simp at h, fun h => by have := Nat.pos_of_ne_zero (fun e => h (List.eq_nil_of_length_eq_zero e)); omega⟩
               have hb3 : decide (0 < j - i) = b := by rw [← hb2, decide_eq_decide]; omega
               have HLO := Lib.hid hPP.low
               obtain ⟨q, hq⟩ : ∃ q, j - i = q := ⟨_, rfl⟩
               rw [hq] at hb2 hb3
               rw [hq]
               clear hPP hin hlen hq)
  go_ret
  exact ⟨by first | rfl | rw [hb2] | rw [hb3] | simp [hb3], HLO.out⟩
set_option maxHeartbeats 4000000 in
set_option maxRecDepth 100000 in
theorem r_next : Calls Try.prog 13 #[.slice A n c, .int .u16 v] w fun e w' => ∃ (x : Int) (b : Bool), e = .returned (.tuple #[.int .u16 x, .bool b]) ∧ 0 ≤ x ∧ x ≤ 65535 ∧ (if b then x else -1) = M.rNext (Rn.flat rs) v ∧ Below w.heap.size w w' := by
  have HP := Lib.hid (r_parts w B n c A rs v v hn hr hB hg hc (by rw [hn]; exact Nat.le_trans (ok_len hg) (by omega)))
  have wv : IntKind.i64.wrap v = v := IntWalk.i64_in _ (by omega)
  have HN := Lib.hid hn
  have HG := Lib.hid hg
  have HB := Lib.hid hB
  clear hn hr hB hg hc
  go_enter Try.func13, Try.ntmps13
  go_wp2_with (fail)
  (with_reducible refine HP.out.mono ?_)
  rintro e w2 ⟨i, j, A2, c2, A3, c3, rfl, hPP⟩
  have HPP := Lib.hid hPP
  have hin := Lib.hid (parts_in hPP)
  have hlen : Hid (((rs.take j).drop i).length = j - i) := Lib.hid (by rw [List.length_drop, List.length_take]; have := hPP.jn; have := HN.out; omega)
  have hlen3 : Hid ((rs.drop j).length = n - j) := Lib.hid (by rw [List.length_drop, HN.out])
  have hlen1 : Hid ((rs.take i).length = i) := Lib.hid (by rw [List.length_take]; have := hPP.ij; have := hPP.jn; have := HN.out; omega)
  have HIP := Lib.hid (fun x => in_parts (rs := rs) (x := x) hPP.ij)
  have hn6 : n ≤ 65536 := by rw [HN.out]; exact ok_len HG.out
  have hjn := hPP.jn
  have hij := hPP.ij
  obtain ⟨q, hq⟩ : ∃ q, j - i = q := ⟨_, rfl⟩
  obtain ⟨p, hp⟩ : ∃ p, n - j = p := ⟨_, rfl⟩
  rw [hq] at hlen
  rw [hp] at hlen3
  rw [hq, hp]
  have hq6 : q ≤ 65536 := by omega
  have hp6 : p ≤ 65536 := by omega
  have hi6 : i ≤ 65536 := by omega
  clear hPP hq hp HP
  by_cases h0 : 0 < q
  · have d1 : decide (0 < (q : Int)) = true := decide_eq_true (by omega)
    have d2 : decide (0 < q) = true := decide_eq_true h0
    have HV : Hid (Rn.V rs v) := Lib.hid (hin.out.2 (fun e => by have h := hlen.out; rw [e] at h; simp at h; omega))
    clear h0
    go_wp2
    go_ret2
    exact ⟨v, true, rfl, hv.1, hv.2, by rw [if_pos rfl]; exact (next_flat HG.out HV.out (Int.le_refl _) (fun z _ h => h)).symm, HPP.out.low⟩
  · have d1 : decide (0 < (q : Int)) = false := decide_eq_false (by omega)
    have d2 : decide (0 < q) = false := decide_eq_false h0
    have HNV : Hid (∀ x, ¬ Rn.V ((rs.take j).drop i) x) := Lib.hid (fun x hx => by
      have e : (rs.take j).drop i = [] := List.eq_nil_of_length_eq_zero (by rw [hlen.out]; omega)
      rw [e] at hx
      exact Rn.V_nil x hx)
    clear h0
    by_cases h1 : 0 < p
    · have d3 : decide (0 < (p : Int)) = true := decide_eq_true (by omega)
      have d4 : decide (0 < p) = true := decide_eq_true h1
      have h0l : 0 < (rs.drop j).length := by rw [hlen3.out]; exact h1
      obtain ⟨b, off, hA, _, k1, k2⟩ := HPP.out.r3.at h0l
      subst hA
      simp only [Nat.zero_mul, Nat.add_zero] at k1 k2
      have hmem : (rs.drop j)[0] ∈ rs.drop j := List.getElem_mem h0l
      have hgd := HG.out.1 _ (List.mem_of_mem_drop hmem)
      unfold Rn.Good at hgd
      have hvx := HPP.out.p3 _ hmem
      have hok : Rn.Ok (rs.drop j) := HG.out.sub (List.drop_sublist _ _)
      have HRES : Hid (M.rNext (Rn.flat rs) v = (rs.drop j)[0].1) := Lib.hid (next_flat HG.out ((HIP.out _).2 (.inr (.inr ⟨_, hmem, Int.le_refl _, hgd.2.1⟩))) (by omega) (fun z hz hvz => by
        rcases (HIP.out z).1 hz with ⟨r, hr, e1, e2⟩ | e | ⟨r, hr, e1, e2⟩
        · have := HPP.out.p1 r hr; omega
        · exact absurd e (HNV.out z)
        · obtain ⟨k, hk, rfl⟩ := List.getElem_of_mem hr
          have := (ok_le hok (Nat.zero_le k) hk).1
          omega))
      obtain ⟨x, hx⟩ : ∃ x, x = (rs.drop j)[0] := ⟨_, rfl⟩
      rw [← hx] at k1 k2 hgd HRES
      clear hx hmem hvx hok h0l h1
      obtain ⟨f, t⟩ := x
      simp only at k1 k2 hgd HRES
      have hpi : (0 : Int) < (p : Int) := by have := of_decide_eq_true d3; exact this
      go_wp2
      go_ret2
      exact ⟨f, true, rfl, hgd.1, by omega, by rw [if_pos rfl, HRES.out], HPP.out.low⟩
    · have d3 : decide (0 < (p : Int)) = false := decide_eq_false (by omega)
      have d4 : decide (0 < p) = false := decide_eq_false h1
      have e3 : rs.drop j = [] := List.eq_nil_of_length_eq_zero (by rw [hlen3.out]; omega)
      have HRES : Hid (M.rNext (Rn.flat rs) v = -1) := Lib.hid (M.next_none (Rn.flat_up HG.out) fun z hz => by
        rcases (HIP.out z).1 (Rn.mem_flat.1 hz) with ⟨r, hr, e1, e2⟩ | e | ⟨r, hr, e1, e2⟩
        · have := HPP.out.p1 r hr; omega
        · exact absurd e (HNV.out z)
        · rw [e3] at hr; exact absurd hr (by simp))
      clear e3 h1
      go_wp2
      go_ret2
      exact ⟨0, false, rfl, by omega, by omega, by rw [HRES.out]; rfl, HPP.out.low⟩
set_option maxHeartbeats 4000000 in
set_option maxRecDepth 100000 in
theorem r_prev : Calls Try.prog 15 #[.slice A n c, .int .u16 v] w fun e w' => ∃ (x : Int) (b : Bool), e = .returned (.tuple #[.int .u16 x, .bool b]) ∧ 0 ≤ x ∧ x ≤ 65535 ∧ (if b then x else -1) = M.rPrev (Rn.flat rs) v ∧ Below w.heap.size w w' := by
  have HP := Lib.hid (r_parts w B n c A rs v v hn hr hB hg hc (by rw [hn]; exact Nat.le_trans (ok_len hg) (by omega)))
  have wv : IntKind.i64.wrap v = v := IntWalk.i64_in _ (by omega)
  have HN := Lib.hid hn
  have HG := Lib.hid hg
  have HB := Lib.hid hB
  have HR := Lib.hid hr
  clear hn hr hB hg hc
  go_enter Try.func15, Try.ntmps15
  go_wp2_with (fail)
  (with_reducible refine HP.out.mono ?_)
  rintro e w2 ⟨i, j, A2, c2, A3, c3, rfl, hPP⟩
  have HPP := Lib.hid hPP
  have hin := Lib.hid (parts_in hPP)
  have hlen : Hid (((rs.take j).drop i).length = j - i) := Lib.hid (by rw [List.length_drop, List.length_take]; have := hPP.jn; have := HN.out; omega)
  have hlen3 : Hid ((rs.drop j).length = n - j) := Lib.hid (by rw [List.length_drop, HN.out])
  have hlen1 : Hid ((rs.take i).length = i) := Lib.hid (by rw [List.length_take]; have := hPP.ij; have := hPP.jn; have := HN.out; omega)
  have HIP := Lib.hid (fun x => in_parts (rs := rs) (x := x) hPP.ij)
  have hn6 : n ≤ 65536 := by rw [HN.out]; exact ok_len HG.out
  have hjn := hPP.jn
  have hij := hPP.ij
  obtain ⟨q, hq⟩ : ∃ q, j - i = q := ⟨_, rfl⟩
  obtain ⟨p, hp⟩ : ∃ p, n - j = p := ⟨_, rfl⟩
  rw [hq] at hlen
  rw [hp] at hlen3
  rw [hq, hp]
  have hq6 : q ≤ 65536 := by omega
  have hp6 : p ≤ 65536 := by omega
  have hi6 : i ≤ 65536 := by omega
  clear hPP hq hp HP
  by_cases h0 : 0 < q
  · have d1 : decide (0 < (q : Int)) = true := decide_eq_true (by omega)
    have d2 : decide (0 < q) = true := decide_eq_true h0
    have HV : Hid (Rn.V rs v) := Lib.hid (hin.out.2 (fun e => by have h := hlen.out; rw [e] at h; simp at h; omega))
    clear h0
    go_wp2
    go_ret2
    exact ⟨v, true, rfl, hv.1, hv.2, by rw [if_pos rfl]; exact (prev_flat HG.out HV.out (Int.le_refl _) (fun z _ h => h)).symm, HPP.out.low⟩
  · have d1 : decide (0 < (q : Int)) = false := decide_eq_false (by omega)
    have d2 : decide (0 < q) = false := decide_eq_false h0
    have HNV : Hid (∀ x, ¬ Rn.V ((rs.take j).drop i) x) := Lib.hid (fun x hx => by
      have e : (rs.take j).drop i = [] := List.eq_nil_of_length_eq_zero (by rw [hlen.out]; omega)
      rw [e] at hx
      exact Rn.V_nil x hx)
    clear h0
    by_cases h1 : 0 < i
    · have d3 : decide (0 < (i : Int)) = true := decide_eq_true (by omega)
      have d4 : decide (0 < i) = true := decide_eq_true h1
      obtain ⟨l, hl⟩ : ∃ l, i = l + 1 := ⟨i - 1, by omega⟩
      have h0l : l < (rs.take i).length := by rw [hlen1.out]; omega
      obtain ⟨b, off, hA, _, k1, k2⟩ := ((rq_take (l := i) HR.out).below HPP.out.low HB.out).at h0l
      subst hA
      have hmem : (rs.take i)[l] ∈ rs.take i := List.getElem_mem h0l
      have hgd := HG.out.1 _ (List.mem_of_mem_take hmem)
      unfold Rn.Good at hgd
      have hvx := HPP.out.p1 _ hmem
      have hok : Rn.Ok (rs.take i) := HG.out.sub (List.take_sublist _ _)
      have HRES : Hid (M.rPrev (Rn.flat rs) v = (rs.take i)[l].2) := Lib.hid (prev_flat HG.out ((HIP.out _).2 (.inl ⟨_, hmem, hgd.2.1, Int.le_refl _⟩)) (by omega) (fun z hz hvz => by
        rcases (HIP.out z).1 hz with ⟨r, hr, e1, e2⟩ | e | ⟨r, hr, e1, e2⟩
        · obtain ⟨k, hk, rfl⟩ := List.getElem_of_mem hr
          have := (ok_le hok (show k ≤ l by rw [hlen1.out] at hk; omega) h0l).2
          omega
        · exact absurd e (HNV.out z)
        · have := HPP.out.p3 r hr; omega))
      obtain ⟨x, hx⟩ : ∃ x, x = (rs.take i)[l] := ⟨_, rfl⟩
      rw [← hx] at k1 k2 hgd HRES
      clear hx hmem hvx hok h0l h1
      obtain ⟨f, t⟩ := x
      simp only at k1 k2 hgd HRES
      have hil : IntKind.i64.wrap ((i : Int) - 1) = (l : Int) := by rw [IntWalk.i64_in _ (by omega)]; omega
      have hi1 : (0 : Int) ≤ (l : Int) := by omega
      have hi2 : (l : Int) < (i : Int) := by omega
      have hi3 : l < i := by omega
      clear hl
      go_wp2
      go_ret2
      exact ⟨t, true, rfl, by omega, hgd.2.2, by rw [if_pos rfl, HRES.out], HPP.out.low⟩
    · have d3 : decide (0 < (i : Int)) = false := decide_eq_false (by omega)
      have d4 : decide (0 < i) = false := decide_eq_false h1
      have e3 : rs.take i = [] := List.eq_nil_of_length_eq_zero (by rw [hlen1.out]; omega)
      have HRES : Hid (M.rPrev (Rn.flat rs) v = -1) := Lib.hid (M.prev_none (Rn.flat_up HG.out) fun z hz => by
        rcases (HIP.out z).1 (Rn.mem_flat.1 hz) with ⟨r, hr, e1, e2⟩ | e | ⟨r, hr, e1, e2⟩
        · rw [e3] at hr; exact absurd hr (by simp)
        · exact absurd e (HNV.out z)
        · have := HPP.out.p3 r hr; omega)
      clear e3 h1
      go_wp2
      go_ret2
      exact ⟨0, false, rfl, by omega, by omega, by rw [HRES.out]; rfl, HPP.out.low⟩
end
end Go.Proofs.Ytejboemifncjoaa
