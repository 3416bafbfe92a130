
/- Whether strips are alike: the text walked. -/
import Derived.Test.YtfdcejafobjlbaaDoorObjC
namespace Go.Proofs.YtfdcejafobjlbaaDoor
open Go.RowKit
/-- Strips handed in: none, or the struct's block, its words' block, its words. -/
abbrev Sp := Option (Nat × Nat × List Nat)
def spv (p : Sp) : Value := .pointer (p.map fun x => ⟨x.1, 0, none⟩)
/-- Those that are there lie as they say. -/
def Sts (w : World) (ps : List Sp) : Prop := ∀ s h ws, some (s, h, ws) ∈ ps → St w s h ws
/-- The slice at A reads as these pointers. -/
def Rp (w : World) (B : Nat) (A : Option Addr) (ps : List Sp) : Prop :=
  ps ≠ [] → ∃ b off, A = some ⟨b, off, none⟩ ∧ b < B ∧ ∀ (k : Nat) (h : k < ps.length), w.cell? ⟨b, off + k, none⟩ = some (spv ps[k])
theorem Rp.at {w : World} {B : Nat} {A : Option Addr} {xs : List Sp} (h : Rp w B A xs) {k : Nat} (hk : k < xs.length) : ∃ b off, A = some ⟨b, off, none⟩ ∧ b < B ∧ w.cell? ⟨b, off + k, none⟩ = some (spv xs[k]) ∧ w.cell? ⟨b, off, none⟩ = some (spv (xs[0]'(by omega))) := by
  obtain ⟨b, off, rfl, hb, hc⟩ := h (by intro e; subst e; simp at hk)
  exact ⟨b, off, rfl, hb, hc k hk, hc 0 (by omega)⟩
/-- How many words, if it is one. -/
def spl (p : Sp) : Option Nat := p.map fun x => x.2.2.length
def alk (ps : List Sp) : Bool := decide (ps ≠ []) && ps.all fun p => p.isSome && (spl p == (ps[0]?).bind spl)
theorem alk_no {ps : List Sp} {k : Nat} (hk : k < ps.length) (h : ps[k].isSome = false ∨ (spl ps[k] == spl (ps[0]'(by omega))) = false) : alk ps = false := by
  unfold alk
  rw [Bool.and_eq_false_iff]
  right
  rw [List.all_eq_false]
  refine ⟨ps[k], List.getElem_mem hk, ?_⟩
  rw [List.getElem?_eq_getElem (by omega : 0 < ps.length)]
  rcases h with h | h
  · simp [h]
  · simp at h ⊢; intro _; exact h
theorem alk_yes {ps : List Sp} (h0 : 0 < ps.length) (h : ∀ k (hk : k < ps.length), ps[k].isSome = true ∧ (spl ps[k] == spl ps[0]) = true) : alk ps = true := by
  unfold alk
  rw [Bool.and_eq_true]
  refine ⟨by rw [decide_eq_true_eq]; intro e; subst e; simp at h0, ?_⟩
  rw [List.all_eq_true]
  intro p hp
  obtain ⟨k, hk, rfl⟩ := List.getElem_of_mem hp
  have := h k hk
  rw [List.getElem?_eq_getElem h0]
  simp only [Option.bind_some, this.1, this.2, Bool.and_self]
set_option maxHeartbeats 1000000 in
theorem alike_any (w : World) (B : Nat) (A : Option Addr) (c : Nat) (ps : List Sp) (hr : Rp w B A ps) (hs : Sts w ps) (hl : ps.length ≤ 4611686018427387904) :
    Calls Tryd.prog 70 #[.slice A ps.length c] w fun e w' => e = .returned (.bool (alk ps)) ∧ ∃ n, w' = w.drewN n := by
  by_cases h0 : ps.length = 0
  · have hp : ps = [] := List.eq_nil_of_length_eq_zero h0
    subst hp
    clear hr hs
    go_enter Tryd.func70, Tryd.ntmps70
    go_wp2
    refine bodyPost_ret (results_tmp (t := 2) rfl _ _ _) rfl ?_
    exact ⟨rfl, 0, rfl⟩
  · have hne : ((ps.length : Int) == 0) = false := by rw [beq_eq_false_iff_ne]; omega
    have hp0 : 0 < ps.length := by omega
    clear h0
    go_enter Tryd.func70, Tryd.ntmps70
    go_wp2
    obtain ⟨p0, hp0e⟩ : ∃ p0, ps[0] = p0 := ⟨_, rfl⟩
    have hp0H := Lib.hid hp0e
    clear hp0e
    go_loopw [10] (fun i wr => ∃ k : Nat, k ≤ ps.length ∧ i = .int .i64 k ∧ Hid (∃ N, wr = w.drewN N) ∧ Hid (∀ j (hj : j < ps.length), j < k → ps[j].isSome = true ∧ (spl ps[j] == spl p0) = true)) (fun i _ => ps.length - (intOf i).toNat)
    case atStart => exact ⟨0, by omega, rfl, ⟨0, rfl⟩, fun j hj h => absurd h (by omega)⟩
    case round =>
      obtain ⟨k, hk, rfl, hW, hH⟩ := hrel
      have hrW : Rp wr B A ps := by obtain ⟨N, rfl⟩ := hW.out; exact hr
      have hsW : Sts wr ps := by obtain ⟨N, rfl⟩ := hW.out; exact fun s h ws e => (hs s h ws e).drew N
      by_cases hlt : k < ps.length
      · obtain ⟨b, off, rfl, hb, hck, hc0⟩ := hrW.at hlt
        rw [hp0H.out] at hc0
        have hno : ps[k].isSome = false ∨ (spl ps[k] == spl p0) = false → Hid (alk ps = false) := fun h => by
          refine alk_no hlt ?_
          rw [hp0H.out]; exact h
        have hs0 : Hid (∀ s h ws, p0 = some (s, h, ws) → St wr s h ws) := fun s h ws e => hsW s h ws (by rw [← e, ← hp0H.out]; exact List.getElem_mem hp0)
        have hsk : Hid (∀ s h ws, ps[k] = some (s, h, ws) → St wr s h ws) := fun s h ws e => hsW s h ws (by rw [← e]; exact List.getElem_mem hlt)
        have hfirst : ¬ k = 0 → p0.isSome = true := fun e => by rw [← hp0H.out]; exact (hH.out 0 hp0 (by omega)).1
        have hzero : k = 0 → ps[k] = p0 := fun e => by subst e; exact hp0H.out
        have hnext : (ps[k].isSome = true ∧ (spl ps[k] == spl p0) = true) → Hid (∀ j (hj : j < ps.length), j < k + 1 → ps[j].isSome = true ∧ (spl ps[j] == spl p0) = true) := fun h j hj hjk => by
          by_cases e : j = k
          · subst e; exact h
          · exact hH.out j hj (by omega)
        clear hH
        generalize ps[k] = pk at *
        rcases pk with _ | ⟨s, h, ws⟩
        · have hres := hno (.inl rfl)
          clear hno hs0 hsk hfirst hzero hnext
          change wr.cell? ⟨b, off + k, none⟩ = some (.pointer none) at hck
          go_wp2
          go_quiet (fail)
          go_wp2
          refine bodyPost_ret (results_tmp (t := 2) rfl _ _ _) rfl ?_
          obtain ⟨N, rfl⟩ := hW.out
          exact ⟨ret_bool hres.out.symm, _, World.drewN_drewN _ _ _⟩
        · have hp0s : p0.isSome = true := by
            by_cases e : k = 0
            · rw [← hzero e]; rfl
            · exact hfirst e
          rcases p0 with _ | ⟨s0, h0, ws0⟩
          · cases hp0s
          · have a1 := hsk.out s h ws rfl
            have a0 := hs0.out s0 h0 ws0 rfl
            have hb1 : ∀ M, Hid (Calls Tryd.prog 18 #[.pointer (some ⟨s, 0, none⟩)] (wr.drewN M) fun e w'' => e = .returned (.int .i64 ((64 * ws.length : Nat) : Int)) ∧ ∃ m, w'' = wr.drewN m) := fun M => Calls.quiet_of_same ((s_bits (wr.drewN M) s h ws (a1.drew M)).mono (by rintro e w' ⟨rfl, rfl⟩; exact ⟨rfl, rfl⟩))
            have hb0 : ∀ M, Hid (Calls Tryd.prog 18 #[.pointer (some ⟨s0, 0, none⟩)] (wr.drewN M) fun e w'' => e = .returned (.int .i64 ((64 * ws0.length : Nat) : Int)) ∧ ∃ m, w'' = wr.drewN m) := fun M => Calls.quiet_of_same ((s_bits (wr.drewN M) s0 h0 ws0 (a0.drew M)).mono (by rintro e w' ⟨rfl, rfl⟩; exact ⟨rfl, rfl⟩))
            have h1 := a1.2.2.2
            have h2 := a0.2.2.2
            change wr.cell? ⟨b, off + k, none⟩ = some (.pointer (some ⟨s, 0, none⟩)) at hck
            change wr.cell? ⟨b, off, none⟩ = some (.pointer (some ⟨s0, 0, none⟩)) at hc0
            have hnilq : ∀ (w : World) (x : Addr), Sem.run Tryd.prog (binOp .eql 24 (.pointer (some x)) (.pointer none)) w = .ok (.bool false) w := fun _ _ => by kernel_rfl
            clear hs0 hsk hfirst hzero a1 a0
            by_cases e : ws.length = ws0.length
            · have hq := hnext ⟨rfl, by simp [spl, e]⟩
              clear hno hnext
              have heq : (((64 * ws.length : Nat) : Int) != ((64 * ws0.length : Nat) : Int)) = false := by rw [e]; simp
              have heq2 : (((64 * ws.length : Nat) : Int) == ((64 * ws0.length : Nat) : Int)) = true := by rw [e]; simp
              generalize ((64 * ws.length : Nat) : Int) = x1 at *
              generalize ((64 * ws0.length : Nat) : Int) = x0 at *
              clear e h1 h2
              go_wp2
              go_quiet ((first
                | (go_at_call 18; with_reducible exact (hb1 _).out)
                | (go_at_call 18; with_reducible exact (hb0 _).out)))
              go_wp2
              go_roundw
              case rel => exact ⟨k + 1, by omega, by go_num, (by obtain ⟨N, rfl⟩ := hW.out; exact ⟨_, World.drewN_drewN _ _ _⟩), hq.out⟩
              case measure => simp [intOf]; omega
            · have hres := hno (.inr (by simp [spl, e]))
              clear hno hnext
              have heq : (((64 * ws.length : Nat) : Int) != ((64 * ws0.length : Nat) : Int)) = true := by rw [bne_iff_ne]; omega
              have heq2 : (((64 * ws.length : Nat) : Int) == ((64 * ws0.length : Nat) : Int)) = false := by rw [beq_eq_false_iff_ne]; omega
              generalize ((64 * ws.length : Nat) : Int) = x1 at *
              generalize ((64 * ws0.length : Nat) : Int) = x0 at *
              clear e h1 h2
              go_wp2
              go_quiet ((first
                | (go_at_call 18; with_reducible exact (hb1 _).out)
                | (go_at_call 18; with_reducible exact (hb0 _).out)))
              go_wp2
              refine bodyPost_ret (results_tmp (t := 2) rfl _ _ _) rfl ?_
              obtain ⟨N, rfl⟩ := hW.out
              exact ⟨ret_bool hres.out.symm, _, World.drewN_drewN _ _ _⟩
      · have hres : Hid (alk ps = true) := alk_yes hp0 (fun j hj => by have := hH.out j hj (by omega); rw [hp0H.out]; exact this)
        go_wp2
        refine bodyPost_ret (results_tmp (t := 2) rfl _ _ _) rfl ?_
        obtain ⟨N, rfl⟩ := hW.out
        exact ⟨ret_bool hres.out.symm, _, rfl⟩
end Go.Proofs.YtfdcejafobjlbaaDoor
