
/- How many runs the document's set has; are runs and a set the same; the texts walked. -/
import Derived.Test.YtejboemifncjoaaRun18
namespace Go.Proofs.Ytejboemifncjoaa
open Go.RowKit
def cst (S : List Int) (l : List Int) : Nat := (l.filter fun x => !decide ((x - 1) ∈ S)).length
theorem cst_step {bs : List Bool} {k : Nat} (hk : k < bs.length) (S : List Int) : cst S (M.L (bs.take (k + 1))) = cst S (M.L (bs.take k)) + if bs[k] && !decide (((k : Int) - 1) ∈ S) then 1 else 0 := by
  unfold cst
  rw [M.L_take hk, List.filter_append, List.length_append]
  cases bs[k]
  · simp
  · by_cases h : ((k : Int) - 1) ∈ S <;> simp [h]
theorem cst_le (S : List Int) (l : List Int) : cst S l ≤ l.length := List.length_filter_le _ _
theorem prev_in {bs : List Bool} {k : Nat} (hk : k + 1 < bs.length) : decide ((((k + 1 : Nat) : Int) - 1) ∈ M.L bs) = bs[k]'(by omega) := by
  rw [Bool.eq_iff_iff, decide_eq_true_eq, M.L_in]
  have e : (((k + 1 : Nat) : Int) - 1).toNat = k := by omega
  rw [e, List.getElem?_eq_getElem (by omega)]
  constructor
  · rintro ⟨_, h⟩; exact Option.some.inj h
  · intro h; exact ⟨by omega, by rw [h]⟩
set_option maxHeartbeats 8000000 in
set_option maxRecDepth 100000 in
theorem f_runs (w : World) (g n : Nat) (bs : List Bool) (a : Bs w g n bs) :
    Calls Try.prog 35 #[.slice (some ⟨g, 0, none⟩) n n] w fun e w' => e = .returned (.int .i64 (cst (M.L bs) (M.L bs) : Nat)) ∧ w = w' := by
  have hn := a.top_le
  have hLen := Lib.hid a.len
  have ha := Lib.hid a
  obtain ⟨S, hS⟩ : ∃ S, S = M.L bs := ⟨_, rfl⟩
  have HS := Lib.hid hS
  rw [← hS]
  clear a hS
  go_enter Try.func35, Try.ntmps35
  go_wp2
  go_loop [3, 7] (fun c i => ∃ k : Nat, k ≤ n ∧ i = .int .i64 (k : Int) ∧ c = .int .i64 ((cst S (M.L (bs.take k)) : Nat) : Int)) (fun _ i => n - (intOf i).toNat)
  case atStart => exact ⟨0, by omega, rfl, rfl⟩
  case round =>
    obtain ⟨k, hk, rfl, rfl⟩ := hrel
    have hcl : cst S (M.L (bs.take k)) ≤ 65536 := Nat.le_trans (cst_le _ _) (Nat.le_trans (M.L_len_take bs k) (by omega))
    by_cases hlt : k < n
    · have hkl : k < bs.length := by rw [hLen.out]; exact hlt
      have hc := ha.out.cell k hlt
      have hst := Lib.hid (cst_step hkl S)
      obtain ⟨b, hb⟩ : ∃ b, b = bs[k] := ⟨_, rfl⟩
      rw [← hb] at hc hst
      clear hb
      obtain ⟨q1, hq1⟩ : ∃ q1, cst S (M.L (bs.take (k + 1))) = q1 := ⟨_, rfl⟩
      obtain ⟨q, hq⟩ : ∃ q, cst S (M.L (bs.take k)) = q := ⟨_, rfl⟩
      rw [hq1, hq] at hst
      rw [hq] at hcl
      rw [hq]
      have HQ1 := Lib.hid hq1
      clear hq hq1
      have wq : IntKind.i64.wrap ((q : Int) + 1) = (q : Int) + 1 := IntWalk.i64_in _ (by omega)
      cases b
      · have h1 : q1 = q := by have := hst.out; simpa using this
        subst h1
        go_wp2
        go_round
        case rel => exact ⟨k + 1, by omega, by go_num, by rw [HQ1.out]⟩
        case measure => simp [intOf]; omega
      · by_cases hk0 : k = 0
        · have h1 : q1 = q + 1 := by
            have h := hst.out
            have hd : decide (((k : Int) - 1) ∈ S) = false := decide_eq_false (fun h => by
              rw [HS.out] at h
              have := (M.L_in.1 h).1
              omega)
            rw [hd] at h
            simpa using h
          subst h1
          have e0 : ((k : Int) == 0) = true := by rw [beq_iff_eq]; omega
          clear hk0
          go_wp2
          go_round
          case rel => exact ⟨k + 1, by omega, by go_num, by rw [HQ1.out]; go_num⟩
          case measure => simp [intOf]; omega
        · obtain ⟨k', rfl⟩ : ∃ k', k = k' + 1 := ⟨k - 1, by omega⟩
          have hc2 := ha.out.cell k' (by omega)
          have hp := prev_in hkl
          rw [← HS.out] at hp
          have h := hst.out
          rw [hp] at h
          obtain ⟨b', hb'⟩ : ∃ b', b' = bs[k'] := ⟨_, rfl⟩
          rw [← hb'] at hc2 h
          clear hp hb' hst
          have e0 : (((k' + 1 : Nat) : Int) == 0) = false := by rw [beq_eq_false_iff_ne]; omega
          have e00 : ((k' : Int) + 1 == 0) = false := by rw [beq_eq_false_iff_ne]; omega
          have wk : IntKind.i64.wrap (((k' + 1 : Nat) : Int) - 1) = (k' : Int) := by rw [IntWalk.i64_in _ (by omega)]; omega
          have wk2 : IntKind.i64.wrap ((k' : Int) + 1 - 1) = (k' : Int) := by rw [IntWalk.i64_in _ (by omega)]; omega
          have wk3 : IntKind.i64.wrap (k' : Int) = (k' : Int) := IntWalk.i64_in _ (by omega)
          have hi2 : (k' : Int) < (n : Int) := by omega
          have hi3 : k' < n := by omega
          cases b'
          · have h1 : q1 = q + 1 := by simpa using h
            subst h1
            clear h hk0
            go_wp2
            go_round
            case rel => exact ⟨k' + 1 + 1, by omega, by go_num, by rw [HQ1.out]; go_num⟩
            case measure => simp [intOf]; omega
          · have h1 : q1 = q := by simpa using h
            subst h1
            clear h hk0
            go_wp2
            go_round
            case rel => exact ⟨k' + 1 + 1, by omega, by go_num, by rw [HQ1.out]⟩
            case measure => simp [intOf]; omega
    · have hkn : bs.take k = bs := M.L_all (by rw [hLen.out]; omega)
      rw [hkn, ← HS.out]
      clear hkn
      go_wp2
      go_ret
      exact ⟨rfl, rfl⟩
theorem f_len (w : World) (g n : Nat) (bs : List Bool) (a : Bs w g n bs) :
    Calls Try.prog 34 #[.slice (some ⟨g, 0, none⟩) n n] w fun e w' => e = .returned (.int .i64 ((M.L bs).length : Nat)) ∧ w = w' := by
  have H := f_rank w g n bs a 65536
  have e : M.rRank (M.L bs) 65536 = (M.L bs).length := by
    unfold M.rRank
    rw [List.filter_eq_self.2 fun y hy => decide_eq_true (by have := a.range hy; omega)]
  rw [e] at H
  have HH := Lib.hid H
  clear H a
  go_enter Try.func34, Try.ntmps34
  go_wp2_with (go_at_call 18; (with_reducible refine HH.out.mono ?_); rintro e w' ⟨rfl, rfl⟩)
  go_ret
  exact ⟨rfl, rfl⟩
end Go.Proofs.Ytejboemifncjoaa
