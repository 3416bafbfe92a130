/- sift's joins of any number of sequences: joinAll, Or, And; the texts walked. A law's sequences: a bag of function values and what each tells; the calls of sift with it. The law's example: awake; a list's words; the text walked. What the cards of the chain's laws use: the last step over a world of which all that was there is as it was; how slices of words and of truth values that came in read. The law SiftLaws; the text walked. -/
import Derived.Test.YtepdhjcgpjjjlaaRows
import Derived.WalkKit
import Derived.ProofKit
import Derived.OpenShut
import Derived.Below
import Derived.ChangeSame
import Derived.ChangeSlices
import Derived.Carry
import Derived.Deep.Grids
import Derived.JoinedOf
import Derived.Test.YtepdhjcgpjjjlaaMt12
section
namespace Go.Proofs.Ytepdhjcgpjjjlaa
set_option maxRecDepth 20000
open Go.RowKit Go.Shelf
theorem cutf_l (A : Option Addr) (n c l : Nat) (L : Int) (hL : L = (l : Int)) (hl : l ≤ n) : (∀ w, (Instr.sliceAt 27 (.slice A n c) (some (.int .i64 L)) none none).run Try.prog w = .ok (.slice (Kb.cutA A l c) (n - l) (c - l)) w) ∧
    (∀ w, (Instr.slice 27 (.slice A n c) (some (.int .i64 L)) none none).run Try.prog w = .ok (.slice (Kb.cutA A l c) (n - l) (c - l)) w) := by
  subst hL
  have hu : Try.prog.underlying 27 = some (.slice (Try.prog.elem 27)) := by kernel_rfl
  have hz : ∀ w, (Go.sizeOf (Try.prog.elem 27)).run Try.prog w = .ok 1 w := fun w => Try.sizeOf29 w
  have h2 : ∀ w, (Instr.slice 27 (.slice A n c) (some (.int .i64 (l : Int))) none none).run Try.prog w = .ok (sliced A l n c 1) w := fun w => by
    have h := run_slice_l (P := Try.prog) (w := w) (t := 27) (a := A) (len := n) (cap := c) (ht := hu) (kl := .i64) (l := (l : Int)) (h0 := by omega) (h1 := by omega)
    rw [h, hz]
    simp [Result.andThen]
  exact ⟨fun w => (run_sliceAt_slice (w := w) (h := hu) ..).trans (h2 w), h2⟩
theorem cutf_h (A : Option Addr) (n c l : Nat) (L : Int) (hL : L = (l : Int)) (hl : l ≤ n) (hc : n ≤ c) : (∀ w, (Instr.sliceAt 27 (.slice A n c) none (some (.int .i64 L)) none).run Try.prog w = .ok (.slice A l c) w) ∧
    (∀ w, (Instr.slice 27 (.slice A n c) none (some (.int .i64 L)) none).run Try.prog w = .ok (.slice A l c) w) := by
  subst hL
  have hu : Try.prog.underlying 27 = some (.slice (Try.prog.elem 27)) := by kernel_rfl
  have hz : ∀ w, (Go.sizeOf (Try.prog.elem 27)).run Try.prog w = .ok 1 w := fun w => Try.sizeOf29 w
  have h2 : ∀ w, (Instr.slice 27 (.slice A n c) none (some (.int .i64 (l : Int))) none).run Try.prog w = .ok (.slice A l c) w := fun w => by
    have h := run_slice_h (P := Try.prog) (w := w) (t := 27) (a := A) (len := n) (cap := c) (ht := hu) (kh := .i64) (h := (l : Int)) (h0 := by omega) (h2 := by omega)
    rw [h, hz]
    simp [Result.andThen]
    cases A <;> simp [sliced, Addr.add]
  exact ⟨fun w => (run_sliceAt_slice (w := w) (h := hu) ..).trans (h2 w), h2⟩
/-- Function values in cells, and what they tell. -/
def Fx (w : World) (A : Option Addr) (xss : List (List Nat)) : Prop := xss ≠ [] → ∃ b off, A = some ⟨b, off, none⟩ ∧ b < w.heap.size ∧ ∀ (k : Nat) (h : k < xss.length), ∃ f, w.cell? ⟨b, off + k, none⟩ = some f ∧ Sx w f xss[k]
theorem Fx.below {w W : World} {A : Option Addr} {xss : List (List Nat)} (h : Fx w A xss) (hb : Below w.heap.size w W) : Fx W A xss := fun hne => by
  obtain ⟨b, off, rfl, hl, hc⟩ := h hne
  refine ⟨b, off, rfl, Nat.lt_of_lt_of_le hl hb.size, fun k hk => ?_⟩
  obtain ⟨f, h1, h2⟩ := hc k hk
  exact ⟨f, (hb.cell (p := ⟨b, off + k, none⟩) hl).trans h1, h2.below hb⟩
theorem Fx.take {w : World} {A : Option Addr} {xss : List (List Nat)} (h : Fx w A xss) (n : Nat) : Fx w A (xss.take n) := fun hne => by
  obtain ⟨b, off, rfl, hl, hc⟩ := h (by intro e; subst e; simp at hne)
  refine ⟨b, off, rfl, hl, fun k hk => ?_⟩
  rw [List.length_take] at hk
  obtain ⟨f, h1, h2⟩ := hc k (by omega)
  exact ⟨f, h1, by rw [List.getElem_take]; exact h2⟩
theorem Fx.drop {w : World} {A : Option Addr} {xss : List (List Nat)} (h : Fx w A xss) {n c : Nat} (hc : xss.length ≤ c) : Fx w (Kb.cutA A n c) (xss.drop n) := fun hne => by
  have hn : n < xss.length := by
    rcases Nat.lt_or_ge n xss.length with h1 | h1
    · exact h1
    · exact absurd (List.drop_eq_nil_iff.2 h1) hne
  obtain ⟨b, off, rfl, hl, hcl⟩ := h (by intro e; subst e; cases hn)
  have hcut : Kb.cutA (some ⟨b, off, none⟩) n c = some ⟨b, off + n, none⟩ := by
    unfold Kb.cutA
    rw [if_neg (by omega)]
    by_cases h0 : n = 0
    · subst h0; simp [Addr.add]
    · simp [Addr.add, h0]
  refine ⟨b, off + n, hcut, hl, fun k hk => ?_⟩
  rw [List.length_drop] at hk
  obtain ⟨f, h1, h2⟩ := hcl (n + k) (by omega)
  exact ⟨f, by rw [Nat.add_assoc]; exact h1, by rw [List.getElem_drop]; exact h2⟩
namespace T
theorem up_extV : ∀ {l m : List Nat}, K.Up l → K.Up m → (∀ x, x ∈ l ↔ x ∈ m) → l = m := fun {l m} hl hm h => by
  have := S.ext_int (l := l.map fun a : Nat => (a : Int)) (m := m.map fun a : Nat => (a : Int)) (by rw [List.pairwise_map]; exact List.Pairwise.imp (fun h => by omega) hl) (by rw [List.pairwise_map]; exact List.Pairwise.imp (fun h => by omega) hm) (fun x => by simp only [List.mem_map]; exact ⟨fun ⟨a, h1, h2⟩ => ⟨a, (h a).1 h1, h2⟩, fun ⟨a, h1, h2⟩ => ⟨a, (h a).2 h1, h2⟩⟩)
  exact (List.map_inj_right (fun a b e => by omega)).1 this
end T
namespace S
/-- What a joining of all tells: by what two of them do. -/
structure Tl (q : Nat → Bool) (M : List (List Nat) → Nat → Prop) : Prop where
  nil : ∀ z, ¬ M [] z
  one : ∀ x z, M [x] z ↔ z ∈ x
  app : ∀ a b z, a ≠ [] → b ≠ [] → (M (a ++ b) z ↔ tells q (M a z) (M b z))
def mOr (l : List (List Nat)) (z : Nat) : Prop := ∃ x ∈ l, z ∈ x
def mAnd (l : List (List Nat)) (z : Nat) : Prop := l ≠ [] ∧ ∀ x ∈ l, z ∈ x
theorem t_or : Tl qOr mOr := by
  refine ⟨(fun z ⟨x, hx, _⟩ => by cases hx), (fun x z => by simp [mOr]), fun a b z _ _ => ?_⟩
  have e : mOr (a ++ b) z ↔ mOr a z ∨ mOr b z := by
    simp only [mOr, List.mem_append]
    constructor
    · rintro ⟨x, hx | hx, hz⟩
      · exact .inl ⟨x, hx, hz⟩
      · exact .inr ⟨x, hx, hz⟩
    · rintro (⟨x, hx, hz⟩ | ⟨x, hx, hz⟩)
      · exact ⟨x, .inl hx, hz⟩
      · exact ⟨x, .inr hx, hz⟩
  rw [e]
  unfold tells qOr
  by_cases h1 : mOr a z <;> by_cases h2 : mOr b z <;> simp [h1, h2]
theorem t_and : Tl qAnd mAnd := by
  refine ⟨fun z h => h.1 rfl, fun x z => by simp [mAnd], fun a b z ha hb => ?_⟩
  have e : mAnd (a ++ b) z ↔ mAnd a z ∧ mAnd b z := by
    simp only [mAnd, List.mem_append]
    constructor
    · rintro ⟨_, h⟩
      exact ⟨⟨ha, fun x hx => h x (.inl hx)⟩, ⟨hb, fun x hx => h x (.inr hx)⟩⟩
    · rintro ⟨⟨_, h1⟩, ⟨_, h2⟩⟩
      refine ⟨by simp [ha], fun x hx => ?_⟩
      rcases hx with hx | hx
      · exact h1 x hx
      · exact h2 x hx
  rw [e]
  unfold tells qAnd
  by_cases h1 : mAnd a z <;> by_cases h2 : mAnd b z <;> simp [h1, h2]
end S
def JA (w : World) (zs : List Nat) (e : Ending) (w' : World) : Prop := ∃ f, e = .returned f ∧ (Sx w' f zs ∧ f ≠ Value.nilFunc) ∧ Below w.heap.size w w'
theorem joinAll_none (w : World) (A : Option Addr) (c gw : Nat) : Calls Try.prog 28 #[.slice A 0 c, .func (.func gw) #[] #[]] w (JA w []) := by
  have H := Lib.hid (sift_none w)
  go_enter Try.func28, Try.ntmps28
  go_wp2_with (go_at_call 9; (with_reducible refine H.out.mono ?_); rintro e w1 ⟨f, g, lb, Z, rfl, h1, _, h2⟩; have hne : f ≠ Value.nilFunc := (by rw [h1.f]; intro e; cases e); have H1 := Lib.hid (And.intro (And.intro h1.sx hne) h2); clear h1 h2 hne)
  refine bodyPost_ret (results_tmp (t := 4) rfl _ _ _) rfl ?_
  exact ⟨_, rfl, H1.out⟩
theorem joinAll_one (w : World) (A : Option Addr) (c gw : Nat) (x : List Nat) (hf : Fx w A [x]) : Calls Try.prog 28 #[.slice A 1 c, .func (.func gw) #[] #[]] w (JA w x) := by
  obtain ⟨b, off, rfl, _, hc⟩ := hf (by simp)
  obtain ⟨f0, h1, h2⟩ := hc 0 (by simp)
  have hfm := h2.form
  obtain ⟨Z, _, hs⟩ := h2
  have H := Lib.hid (told_any w f0 x Z hs)
  simp only [Nat.add_zero] at h1
  clear hf hc hs
  rcases hfm with rfl | ⟨g0, lb0, rfl⟩ <;>
  · go_enter Try.func28, Try.ntmps28
    go_wp2_with (go_at_call 35; (with_reducible refine H.out.mono ?_); rintro e w1 ⟨f, g, lb, Z', rfl, h1, _, h2⟩; have hne : f ≠ Value.nilFunc := (by rw [h1.f]; intro e; cases e); have H1 := Lib.hid (And.intro (And.intro h1.sx hne) h2); clear h1 h2 hne)
    refine bodyPost_ret (results_tmp (t := 4) rfl _ _ _) rfl ?_
    exact ⟨_, rfl, H1.out⟩
set_option maxRecDepth 100000 in
set_option maxHeartbeats 4000000 in
theorem joinAll_more (w : World) (A : Option Addr) (n c gw : Nat) (q : Nat → Bool) (za zb : List Nat) (hn : 2 ≤ n) (hn2 : n ≤ 1000000) (hc : n ≤ c) (hq : Wq q gw) (hla : za.length ≤ 10000000) (hlb : zb.length ≤ 10000000)
    (hA : ∀ V, Below w.heap.size w V → Calls Try.prog 28 #[.slice A (n / 2) c, .func (.func gw) #[] #[]] V (JA V za))
    (hB : ∀ V, Below w.heap.size w V → Calls Try.prog 28 #[.slice (Kb.cutA A (n / 2) c) (n - n / 2) (c - n / 2), .func (.func gw) #[] #[]] V (JA V zb)) :
    Calls Try.prog 28 #[.slice A n c, .func (.func gw) #[] #[]] w (JA w (S.jn q za zb)) := by
  obtain ⟨h, hh⟩ : ∃ h, n / 2 = h := ⟨_, rfl⟩
  rw [hh] at hA hB
  have q0 : ((n : Int) == 0) = false := by rw [Bool.eq_false_iff]; intro e; rw [beq_iff_eq] at e; omega
  have q1 : ((n : Int) == 1) = false := by rw [Bool.eq_false_iff]; intro e; rw [beq_iff_eq] at e; omega
  have d1 : (n : Int) / 2 = (h : Int) := by omega
  have d2 : (n : Int).tdiv 2 = (h : Int) := by rw [Int.tdiv_eq_ediv_of_nonneg (by omega)]; exact d1
  have d3 : IntKind.i64.wrap (h : Int) = (h : Int) := IntWalk.i64_in _ (by omega)
  have hhn : h ≤ n := by omega
  obtain ⟨a1, a2⟩ := cutf_h A n c h (h : Int) rfl hhn hc
  obtain ⟨a3, a4⟩ := cutf_l A n c h (h : Int) rfl hhn
  obtain ⟨n3, hn3⟩ : ∃ n3, n - h = n3 := ⟨_, rfl⟩
  obtain ⟨c3, hc3⟩ : ∃ c3, c - h = c3 := ⟨_, rfl⟩
  obtain ⟨A3, hA3⟩ : ∃ A3, Kb.cutA A h c = A3 := ⟨_, rfl⟩
  rw [hn3, hc3, hA3] at hB a3 a4
  have HA := Lib.hid hA
  have HB := Lib.hid hB
  have HJ := Lib.hid (fun (V : World) (fa fb : Value) (h1 : Sx V fa za) (h2 : Sx V fb zb) => join_any V fa fb gw q za zb hq hla hlb h1 h2)
  have hb0 : Below w.heap.size w w.drew := ⟨rfl, rfl, rfl, Nat.le_refl _, fun _ _ => rfl⟩
  have HB0 := Lib.hid hb0
  clear hA hB hh hn3 hc3 hA3 hb0 hq hla hlb hn hn2 hc hhn
  go_enter Try.func28, Try.ntmps28
  go_wp2
  go_region_held3 (fun _ => True) (trivial) (first
    | (go_at_call 31; (with_reducible refine (HJ.out _ _ _ (HFA.out.below HBB.out) HFB.out).mono ?_); rintro e w3 ⟨f3, rfl, h3, hb3⟩; have HF := Lib.hid (And.intro h3 (HBW.out.trans (hb3.mono HBW.out.size))); clear h3 hb3)
    | (go_at_call 31; (with_reducible refine (HJ.out _ _ _ HFA.out (HFB.out.below HBB.out)).mono ?_); rintro e w3 ⟨f3, rfl, h3, hb3⟩; have HF := Lib.hid (And.intro h3 (HBW.out.trans (hb3.mono HBW.out.size))); clear h3 hb3)
    | (go_at_call 28; (with_reducible refine (HA.out _ HB1.out).mono ?_); rintro e w2 ⟨fa, rfl, h3, hb3⟩; have HFA := Lib.hid h3.1; have HBB := Lib.hid hb3; have HBW := Lib.hid (HB1.out.trans (hb3.mono HB1.out.size)); clear h3 hb3)
    | (go_at_call 28; (with_reducible refine (HB.out _ HB1.out).mono ?_); rintro e w2 ⟨fb, rfl, h3, hb3⟩; have HFB := Lib.hid h3.1; have HBB := Lib.hid hb3; have HBW := Lib.hid (HB1.out.trans (hb3.mono HB1.out.size)); clear h3 hb3)
    | (go_at_call 28; (with_reducible refine (HA.out _ HB0.out).mono ?_); rintro e w1 ⟨fa, rfl, h3, hb3⟩; have HFA := Lib.hid h3.1; have HB1 := Lib.hid (HB0.out.trans (hb3.mono HB0.out.size)); clear h3 hb3)
    | (go_at_call 28; (with_reducible refine (HB.out _ HB0.out).mono ?_); rintro e w1 ⟨fb, rfl, h3, hb3⟩; have HFB := Lib.hid h3.1; have HB1 := Lib.hid (HB0.out.trans (hb3.mono HB0.out.size)); clear h3 hb3))
  all_goals
    go_wp2
    refine bodyPost_ret (results_tmp (t := 4) rfl _ _ _) rfl ?_
    exact ⟨_, rfl, HF.out⟩
theorem joinAll_any (gw : Nat) (q : Nat → Bool) (M : List (List Nat) → Nat → Prop) (hq : Wq q gw) (hM : S.Tl q M) (B : Nat) : ∀ (N : Nat) (xss : List (List Nat)), xss.length ≤ N → xss.length ≤ 1000000 → xss.length * B ≤ 10000000 → (∀ x ∈ xss, K.Up x ∧ x.length ≤ B) →
    ∃ zs, K.Up zs ∧ (∀ z, z ∈ zs ↔ M xss z) ∧ zs.length ≤ xss.length * B ∧ ∀ (w : World) (A : Option Addr) (c : Nat), xss.length ≤ c → Fx w A xss →
      Calls Try.prog 28 #[.slice A xss.length c, .func (.func gw) #[] #[]] w (JA w zs) := by
  intro N
  induction N with
  | zero =>
    intro xss hl _ _ _
    have hn : xss = [] := List.eq_nil_of_length_eq_zero (Nat.le_zero.1 hl)
    subst hn
    exact ⟨[], List.Pairwise.nil, (fun z => ⟨(fun h => by cases h), fun h => absurd h (hM.nil z)⟩), by simp, fun w A c hc _ => joinAll_none w A c gw⟩
  | succ N ih =>
    intro xss hl hm hB hx
    match xss, hl, hm, hB, hx with
    | [], _, _, _, _ => exact ⟨[], List.Pairwise.nil, (fun z => ⟨(fun h => by cases h), fun h => absurd h (hM.nil z)⟩), by simp, fun w A c hc _ => joinAll_none w A c gw⟩
    | [x], _, _, hB, hx => exact ⟨x, (hx x (by simp)).1, fun z => (hM.one x z).symm, by have := (hx x (by simp)).2; simpa using this, fun w A c hc hf => joinAll_one w A c gw x hf⟩
    | x :: y :: t, hl, hm, hB, hx =>
      obtain ⟨l, hle⟩ : ∃ l, x :: y :: t = l := ⟨_, rfl⟩
      rw [hle] at hl hm hB hx ⊢
      have h2 : 2 ≤ l.length := by rw [← hle]; simp
      obtain ⟨h, hh⟩ : ∃ h, l.length / 2 = h := ⟨_, rfl⟩
      have lt1 : (l.take h).length = h := by rw [List.length_take]; omega
      have lt2 : (l.drop h).length = l.length - h := by rw [List.length_drop]
      have e := List.take_append_drop h l
      have hBm : (l.length - h) * B + h * B = l.length * B := by rw [← Nat.add_mul]; congr 1; omega
      obtain ⟨za, ua, ma, la, ca⟩ := ih (l.take h) (by omega) (by omega) (by rw [lt1]; omega) (fun z hz => hx z (List.mem_of_mem_take hz))
      obtain ⟨zb, ub, mb, lb, cb⟩ := ih (l.drop h) (by omega) (by omega) (by rw [lt2]; omega) (fun z hz => hx z (List.mem_of_mem_drop hz))
      rw [lt1] at la ca
      rw [lt2] at lb cb
      obtain ⟨j1, j2⟩ := S.jn_spec q ua ub
      refine ⟨S.jn q za zb, j1, fun z => ?_, ?_, fun w A c hc hf => ?_⟩
      · rw [j2 z, ma z, mb z, ← hM.app _ _ z (by intro e2; rw [e2] at lt1; simp at lt1; omega) (by intro e2; rw [e2] at lt2; simp at lt2; omega), e]
      · have := S.jn_len q za zb
        omega
      · refine joinAll_more w A l.length c gw q za zb h2 hm hc hq (by omega) (by omega) ?_ ?_ <;> rw [hh]
        · exact fun V hV => ca V A c (by omega) ((hf.below hV).take h)
        · exact fun V hV => cb V _ (c - h) (by omega) ((hf.below hV).drop hc)
theorem or_any (w : World) (A : Option Addr) (c : Nat) (xss : List (List Nat)) (zs : List Nat) (B : Nat) (hm : xss.length ≤ 1000000) (hB : xss.length * B ≤ 10000000) (hx : ∀ x ∈ xss, K.Up x ∧ x.length ≤ B) (hc : xss.length ≤ c) (hf : Fx w A xss) (hu : K.Up zs) (hz : ∀ z, z ∈ zs ↔ S.mOr xss z) :
    Calls Try.prog 12 #[.slice A xss.length c] w (JA w zs) := by
  obtain ⟨zs', u, m, _, H⟩ := joinAll_any _ qOr S.mOr w_or S.t_or B xss.length xss (Nat.le_refl _) hm hB hx
  have e : zs' = zs := T.up_extV u hu (fun z => (m z).trans (hz z).symm)
  subst e
  have HH := Lib.hid (H w A c hc hf)
  clear H hf u m hu hz hx hB hm hc
  generalize xss.length = n at *
  go_enter Try.func12, Try.ntmps12
  go_wp2_with (go_at_call 28; (with_reducible refine HH.out.mono ?_); rintro e w1 ⟨f, rfl, h1, h2⟩; have H1 := Lib.hid (And.intro h1 h2); clear h1 h2)
  go_ret
  exact ⟨_, rfl, H1.out⟩
theorem and_any (w : World) (A : Option Addr) (c : Nat) (xss : List (List Nat)) (zs : List Nat) (B : Nat) (hm : xss.length ≤ 1000000) (hB : xss.length * B ≤ 10000000) (hx : ∀ x ∈ xss, K.Up x ∧ x.length ≤ B) (hc : xss.length ≤ c) (hf : Fx w A xss) (hu : K.Up zs) (hz : ∀ z, z ∈ zs ↔ S.mAnd xss z) :
    Calls Try.prog 14 #[.slice A xss.length c] w (JA w zs) := by
  obtain ⟨zs', u, m, _, H⟩ := joinAll_any _ qAnd S.mAnd w_and S.t_and B xss.length xss (Nat.le_refl _) hm hB hx
  have e : zs' = zs := T.up_extV u hu (fun z => (m z).trans (hz z).symm)
  subst e
  have HH := Lib.hid (H w A c hc hf)
  clear H hf u m hu hz hx hB hm hc
  generalize xss.length = n at *
  go_enter Try.func14, Try.ntmps14
  go_wp2_with (go_at_call 28; (with_reducible refine HH.out.mono ?_); rintro e w1 ⟨f, rfl, h1, h2⟩; have H1 := Lib.hid (And.intro h1 h2); clear h1 h2)
  go_ret
  exact ⟨_, rfl, H1.out⟩
end Go.Proofs.Ytepdhjcgpjjjlaa
end
section
namespace Go.Proofs.Ytepdhjcgpjjjlaa
set_option maxRecDepth 20000
open Go.RowKit Go.Shelf
namespace S
theorem offs {l : List Nat} : ∀ {acc : List Nat}, K.Up acc → K.Up (l.foldl K.add acc) ∧ ∀ x, x ∈ l.foldl K.add acc ↔ x ∈ acc ∨ x ∈ l := by
  induction l with
  | nil => intro acc h; exact ⟨h, fun x => by simp⟩
  | cons a l ih =>
    intro acc h
    obtain ⟨h1, h2⟩ := ih (K.add_up h a)
    refine ⟨h1, fun x => ?_⟩
    rw [List.foldl_cons, h2 x, K.add_mem h, List.mem_cons]
    constructor
    · rintro ((h | h) | h)
      · exact .inr (.inl h)
      · exact .inl h
      · exact .inr (.inr h)
    · rintro (h | h | h)
      · exact .inl (.inr h)
      · exact .inl (.inl h)
      · exact .inr h
theorem off_up (l : List Nat) : K.Up (K.off l) := (offs List.Pairwise.nil).1
theorem off_mem (l : List Nat) (x : Nat) : x ∈ K.off l ↔ x ∈ l := by
  have := (offs (l := l) (acc := []) List.Pairwise.nil).2 x
  unfold K.off
  rw [this]
  simp
theorem off_len (l : List Nat) : (K.off l).length ≤ l.length := by
  have := K.off_len l l.length
  rwa [List.take_length] at this
/-- What one, both, the first alone, just one of two lists have. -/
def o2 (a b : List Nat) : List Nat := K.off (a ++ b)
def a2 (a b : List Nat) : List Nat := a.filter fun z => decide (z ∈ b)
def l2 (a b : List Nat) : List Nat := a.filter fun z => decide (z ∉ b)
def x2 (a b : List Nat) : List Nat := K.off (l2 a b ++ l2 b a)
theorem o2_up (a b : List Nat) : K.Up (o2 a b) := off_up _
theorem x2_up (a b : List Nat) : K.Up (x2 a b) := off_up _
theorem l2_up {a b : List Nat} (h : K.Up a) : K.Up (l2 a b) := List.Pairwise.sublist List.filter_sublist h
theorem o2_mem (a b : List Nat) (z : Nat) : z ∈ o2 a b ↔ z ∈ a ∨ z ∈ b := by unfold o2; rw [off_mem]; simp
theorem l2_mem (a b : List Nat) (z : Nat) : z ∈ l2 a b ↔ z ∈ a ∧ z ∉ b := by unfold l2; simp
theorem x2_mem (a b : List Nat) (z : Nat) : z ∈ x2 a b ↔ (z ∈ a ∧ z ∉ b) ∨ (z ∈ b ∧ z ∉ a) := by unfold x2; rw [off_mem]; simp [l2_mem]
theorem o2_len (a b : List Nat) : (o2 a b).length ≤ a.length + b.length := by have := off_len (a ++ b); simp at this; exact this
theorem l2_len (a b : List Nat) : (l2 a b).length ≤ a.length := List.length_filter_le _ _
theorem x2_len (a b : List Nat) : (x2 a b).length ≤ a.length + b.length := by
  have h := off_len (l2 a b ++ l2 b a)
  have h1 := l2_len a b
  have h2 := l2_len b a
  rw [List.length_append] at h
  unfold x2
  omega
theorem jn_less {a b : List Nat} (ha : K.Up a) (hb : K.Up b) : jn qLess a b = l2 a b := by
  obtain ⟨h1, h2⟩ := jn_spec qLess ha hb
  refine T.up_extV h1 (l2_up ha) fun z => ?_
  rw [h2, l2_mem]
  unfold tells qLess
  simp
theorem jn_xor {a b : List Nat} (ha : K.Up a) (hb : K.Up b) : jn qXor a b = x2 a b := by
  obtain ⟨h1, h2⟩ := jn_spec qXor ha hb
  refine T.up_extV h1 (x2_up a b) fun z => ?_
  rw [h2, x2_mem]
  unfold tells qXor
  by_cases h3 : z ∈ a <;> by_cases h4 : z ∈ b <;> simp [h3, h4]
end S
/-- The law's sequences, each as it was made. -/
structure Bg (w W : World) (L : List (Value × List Nat)) : Prop where
  low : Below w.heap.size w W
  sx : ∀ p ∈ L, Sx W p.1 p.2 ∧ K.Up p.2 ∧ p.2.length ≤ 100000
theorem Bg.below {w W W' : World} {L : List (Value × List Nat)} (h : Bg w W L) (hb : Below W.heap.size W W') : Bg w W' L :=
  ⟨h.low.trans (hb.mono h.low.size), fun p hp => ⟨(h.sx p hp).1.below hb, (h.sx p hp).2⟩⟩
theorem Bg.push {w W W' : World} {L : List (Value × List Nat)} (h : Bg w W L) (hb : Below W.heap.size W W') {f : Value} {xs : List Nat} (hs : Sx W' f xs) (hu : K.Up xs) (hl : xs.length ≤ 100000) : Bg w W' ((f, xs) :: L) :=
  ⟨(h.below hb).low, fun p hp => by
    rcases List.mem_cons.1 hp with rfl | hp
    · exact ⟨hs, hu, hl⟩
    · exact (h.below hb).sx p hp⟩
theorem Bg.start (w : World) : Bg w w [] := ⟨Below.refl _ _, fun p hp => by cases hp⟩
def JB (w : World) (L : List (Value × List Nat)) (zs : List Nat) (e : Ending) (w' : World) : Prop := ∃ g lb, e = .returned (.func (.func g) #[] lb) ∧ Bg w w' ((.func (.func g) #[] lb, zs) :: L)
theorem JB.of {w W V : World} {L : List (Value × List Nat)} {zs : List Nat} {e : Ending} {w' : World} (h : Bg w W L) (hV : Below W.heap.size W V) (hu : K.Up zs) (hl : zs.length ≤ 100000) (hj : JA V zs e w') : JB w L zs e w' := by
  obtain ⟨f, rfl, ⟨h1, h2⟩, h3⟩ := hj
  rcases h1.form with rfl | ⟨g, lb, rfl⟩
  · exact absurd rfl h2
  · exact ⟨g, lb, rfl, h.push (hV.trans (h3.mono hV.size)) h1 hu hl⟩
theorem fx_lit (W : World) (l : List (Value × List Nat)) (h : ∀ p ∈ l, Sx W p.1 p.2) : Fx (W.alloc (.cells (l.map (·.1)).toArray 29)) (some ⟨W.heap.size, 0, none⟩) (l.map (·.2)) := fun hne => by
  refine ⟨W.heap.size, 0, rfl, by simp, fun k hk => ?_⟩
  have hk' : k < l.length := by simpa using hk
  refine ⟨l[k].1, ?_, ?_⟩
  · rw [Nat.zero_add]
    simp [hk']
  · rw [List.getElem_map]
    exact (h l[k] (List.getElem_mem _)).below ((Below.refl _ W).alloc (Nat.le_refl _) _)
section
variable {w W : World} {L : List (Value × List Nat)}
theorem bg_of (h : Bg w W L) (v : Value) (xs : List Nat) (hk : KX W v xs) (hl : xs.length ≤ 100000) : Calls Try.prog 9 #[v] W (JB w L (K.off xs)) := by
  refine (sift_of W v xs (K.off xs) hk (by omega) (S.off_up xs) (S.off_mem xs)).mono ?_
  rintro e w' ⟨f, g, lb, Z, rfl, h1, h2, h3⟩
  have hf := h1.f
  subst hf
  exact ⟨g, lb, rfl, h.push h3 h1.sx (S.off_up xs) (Nat.le_trans (S.off_len xs) hl)⟩
theorem bg_less (h : Bg w W L) {f1 f2 : Value} {x1 x2 : List Nat} (m1 : (f1, x1) ∈ L) (m2 : (f2, x2) ∈ L) : Calls Try.prog 15 #[f1, f2] W (JB w L (S.l2 x1 x2)) := by
  obtain ⟨s1, u1, l1⟩ := h.sx _ m1
  obtain ⟨s2, u2, l2⟩ := h.sx _ m2
  have H := less_any W f1 f2 x1 x2 (by simp at l1; omega) (by simp at l2; omega) s1 s2
  rw [S.jn_less u1 u2] at H
  refine H.mono fun e w' hj => JB.of h (Below.refl _ _) (S.l2_up u1) (Nat.le_trans (S.l2_len _ _) l1) hj
theorem bg_xor (h : Bg w W L) {f1 f2 : Value} {x1 x2 : List Nat} (m1 : (f1, x1) ∈ L) (m2 : (f2, x2) ∈ L) (hl : x1.length + x2.length ≤ 100000) : Calls Try.prog 16 #[f1, f2] W (JB w L (S.x2 x1 x2)) := by
  obtain ⟨s1, u1, l1⟩ := h.sx _ m1
  obtain ⟨s2, u2, l2⟩ := h.sx _ m2
  have H := xor_any W f1 f2 x1 x2 (by simp at l1; omega) (by simp at l2; omega) s1 s2
  rw [S.jn_xor u1 u2] at H
  refine H.mono fun e w' hj => JB.of h (Below.refl _ _) (S.x2_up _ _) (Nat.le_trans (S.x2_len _ _) hl) hj
theorem bg_or (h : Bg w W L) (l : List (Value × List Nat)) (hm : ∀ p ∈ l, p ∈ L) (h10 : l.length ≤ 10) {zs : List Nat} (hu : K.Up zs) (hl : zs.length ≤ 100000) (hz : ∀ z, z ∈ zs ↔ S.mOr (l.map (·.2)) z) (n : Nat) (hn : l.length = n) :
    Calls Try.prog 12 #[.slice (some ⟨W.heap.size, 0, none⟩) n n] (W.alloc (.cells (l.map (·.1)).toArray 29)) (JB w L zs) := by
  subst hn
  have H := or_any (W.alloc (.cells (l.map (·.1)).toArray 29)) (some ⟨W.heap.size, 0, none⟩) l.length (l.map (·.2)) zs 100000 (by rw [List.length_map]; omega) (by rw [List.length_map]; omega)
    (fun x hx => by obtain ⟨p, hp, rfl⟩ := List.mem_map.1 hx; exact (h.sx p (hm p hp)).2) (by rw [List.length_map]; exact Nat.le_refl _) (fx_lit W l fun p hp => (h.sx p (hm p hp)).1) hu hz
  rw [List.length_map] at H
  refine H.mono fun e w' hj => JB.of h ((Below.refl _ W).alloc (Nat.le_refl _) _) hu hl hj
theorem bg_or2 (h : Bg w W L) {f1 f2 : Value} {x1 x2 : List Nat} (m1 : (f1, x1) ∈ L) (m2 : (f2, x2) ∈ L) (hl : x1.length + x2.length ≤ 100000) :
    Calls Try.prog 12 #[.slice (some ⟨W.heap.size, 0, none⟩) 2 2] (W.alloc (.cells #[f1, f2] 29)) (JB w L (S.o2 x1 x2)) :=
  bg_or h [(f1, x1), (f2, x2)] (fun p hp => by simp at hp; rcases hp with rfl | rfl <;> assumption) (by simp) (S.o2_up _ _) (Nat.le_trans (S.o2_len _ _) hl) (fun z => by rw [S.o2_mem]; simp [S.mOr]) 2 rfl
theorem bg_count (h : Bg w W L) {f1 : Value} {x1 : List Nat} (m1 : (f1, x1) ∈ L) : Calls Try.prog 21 #[f1] W fun e w' => e = .returned (.int .i64 (x1.length : Int)) ∧ Bg w w' L := by
  obtain ⟨s1, u1, l1⟩ := h.sx _ m1
  refine (count_any W f1 x1 s1 (by simp at l1; omega)).mono ?_
  rintro e w' ⟨rfl, hb⟩
  exact ⟨rfl, h.below hb⟩
end
end Go.Proofs.Ytepdhjcgpjjjlaa
end
section
namespace Go.Proofs.Ytepdhjcgpjjjlaa
set_option maxRecDepth 20000
open Go.RowKit Go.Shelf
theorem kx_litV (w : World) (xs : List Nat) (hl : xs.length ≤ 1000) : KX (w.alloc (.cells (wv xs).toArray 31)) (.slice (some ⟨w.heap.size, 0, none⟩) xs.length xs.length) xs :=
  ⟨by simp [wv], .inr ⟨w.heap.size, xs.length, (wv xs).toArray, rfl, Nat.zero_le _, K.alloc_top w _, Nat.le_refl _, by unfold maxLen; omega, by simp [wv], by simp [wv, List.take_of_length_le]⟩⟩
theorem kx_rwV {w : World} {v : Value} {xs : List Nat} (h : KX w v xs) : ∃ A c, v = .slice A xs.length c ∧ Rw w w.heap.size A xs := by
  obtain ⟨A, c, h1, h2, _⟩ := Rw.of_own (h : w.ownsRow 0 31 1 v xs.length (wv xs))
  exact ⟨A, c, h1, h2⟩
section
variable {w W : World} {L : List (Value × List Nat)}
/-- The first keys, so many. -/
theorem bg_first (h : Bg w W L) {f1 : Value} {x1 : List Nat} (m1 : (f1, x1) ∈ L) (n : Int) : Calls Try.prog 22 #[f1, .int .i64 n] W fun e w' => ∃ A c, e = .returned (.slice A (x1.take n.toNat).length c) ∧ KX w' (.slice A (x1.take n.toNat).length c) (x1.take n.toNat) ∧ Bg w w' L := by
  obtain ⟨s1, u1, l1⟩ := h.sx _ m1
  rcases Int.lt_or_le n 1 with h1 | h1
  · refine (first_no W f1 n h1).mono ?_
    rintro e w' ⟨rfl, hb⟩
    have e0 : x1.take n.toNat = [] := by
      have : n.toNat = 0 := by omega
      rw [this]; rfl
    rw [e0]
    exact ⟨none, 0, rfl, KX.nil _, h.below hb⟩
  · obtain ⟨m, rfl⟩ : ∃ m : Nat, n = (m : Int) := ⟨n.toNat, by omega⟩
    refine (first_yes W f1 x1 s1 (by simp at l1; omega) m (by omega)).mono ?_
    rintro e w' ⟨v, rfl, hr, hb⟩
    have hk : KX w' v (x1.take m) := own_baseG hr (Nat.zero_le _)
    obtain ⟨A, c, rfl⟩ := K.own_form hk
    rw [Int.toNat_natCast]
    exact ⟨A, c, rfl, hk, h.below hb⟩
/-- Two lists the same? -/
theorem bg_same (h : Bg w W L) {v1 v2 : Value} {x1 x2 : List Nat} (k1 : KX W v1 x1) (k2 : KX W v2 x2) (l1 : x1.length ≤ 100000) (l2 : x2.length ≤ 100000) : Calls Try.prog 18 #[v1, v2] W fun e w' => e = .returned (.bool (decide (x1 = x2))) ∧ Bg w w' L := by
  obtain ⟨A, c, rfl, r1⟩ := kx_rwV k1
  obtain ⟨B, d, rfl, r2⟩ := kx_rwV k2
  refine (ref_samekeys A B c d x1 x2 W _ _ r1 r2 (by omega) (by omega)).mono ?_
  rintro e w' ⟨rfl, n, rfl⟩
  exact ⟨rfl, h.below ⟨rfl, rfl, rfl, Nat.le_refl _, fun _ _ => rfl⟩⟩
end
set_option maxRecDepth 100000 in
set_option maxHeartbeats 8000000 in
theorem awake_any (w : World) : Calls Try.prog 6 #[] w fun e w' => e = .returned (.bool true) ∧ Below w.heap.size w w' := by
  have h0 := Lib.hid (Bg.start w)
  have N1 : Hid (∀ (W : World) (L : List (Value × List Nat)), Bg w W L → Calls Try.prog 9 #[.slice (some ⟨W.heap.size, 0, none⟩) 2 2] (W.alloc (.cells #[.int .u64 1, .int .u64 5] 31)) (JB w L [1, 5])) := Lib.hid fun W L h =>
    have H := bg_of (h.below ((Below.refl _ W).alloc (Nat.le_refl _) _)) _ [1, 5] (kx_litV W [1, 5] (by decide)) (by decide)
    H
  have N2 : Hid (∀ (W : World) (L : List (Value × List Nat)), Bg w W L → Calls Try.prog 9 #[.slice (some ⟨W.heap.size, 0, none⟩) 2 2] (W.alloc (.cells #[.int .u64 2, .int .u64 5] 31)) (JB w L [2, 5])) := Lib.hid fun W L h =>
    have H := bg_of (h.below ((Below.refl _ W).alloc (Nat.le_refl _) _)) _ [2, 5] (kx_litV W [2, 5] (by decide)) (by decide)
    H
  have N3 : Hid (∀ (W : World) (L : List (Value × List Nat)), Bg w W L → Calls Try.prog 9 #[.slice (some ⟨W.heap.size, 0, none⟩) 2 2] (W.alloc (.cells #[.int .u64 7, .int .u64 7] 31)) (JB w L [7])) := Lib.hid fun W L h =>
    have H := bg_of (h.below ((Below.refl _ W).alloc (Nat.le_refl _) _)) _ [7, 7] (kx_litV W [7, 7] (by decide)) (by decide)
    H
  have N5 : Hid (∀ (W : World), KX (W.alloc (.cells #[.int .u64 1, .int .u64 2, .int .u64 5] 31)) (.slice (some ⟨W.heap.size, 0, none⟩) 3 3) [1, 2, 5]) := Lib.hid fun W => kx_litV W [1, 2, 5] (by decide)
  have N6 : Hid (∀ (W : World) (L : List (Value × List Nat)) (f : Value), Bg w W ((f, [1, 2, 5]) :: L) → Calls Try.prog 22 #[f, .int .i64 9] W fun e w' => ∃ A c, e = .returned (.slice A 3 c) ∧ KX w' (.slice A 3 c) [1, 2, 5] ∧ Bg w w' ((f, [1, 2, 5]) :: L)) := Lib.hid fun W L f h =>
    have H := bg_first h (f1 := f) (x1 := [1, 2, 5]) (List.mem_cons_self ..) 9
    H
  have N4 := Lib.hid (show S.o2 [1, 5] [2, 5] = [1, 2, 5] by decide)
  go_enter Try.func6, Try.ntmps6
  go_wp2_with (first
    | (go_at_call 21; (with_reducible refine (bg_count H6.out (List.mem_cons_self ..)).mono ?_); rintro e w7 ⟨rfl, h7⟩; have H7 := Lib.hid h7; clear h7)
    | (go_at_call 9; (with_reducible refine (N3.out _ _ H5.out).mono ?_); rintro e w6 ⟨g3, lb3, rfl, h6⟩; have H6 := Lib.hid h6; clear h6)
    | (go_at_call 18; (with_reducible refine (bg_same (H4.out.2.below ((Below.refl _ _).alloc (Nat.le_refl _) _)) (H4.out.1.below ((Below.refl _ _).alloc (Nat.le_refl _) _)) (N5.out _) (by decide) (by decide)).mono ?_); rintro e w5 ⟨rfl, h5⟩; have H5 := Lib.hid h5; clear h5)
    | (go_at_call 22; (with_reducible refine (N6.out _ _ _ H3.out).mono ?_); rintro e w4 ⟨A4, c4, rfl, h4⟩; have H4 := Lib.hid h4; clear h4)
    | (go_at_call 12; (with_reducible refine (bg_or2 H2.out (List.mem_cons_of_mem _ (List.mem_cons_self ..)) (List.mem_cons_self ..) (by decide)).mono ?_); rw [N4.out]; rintro e w3 ⟨g2, lb2, rfl, h3⟩; have H3 := Lib.hid h3; clear h3)
    | (go_at_call 9; (with_reducible refine (N2.out _ _ H1.out).mono ?_); rintro e w2 ⟨g1, lb1, rfl, h2⟩; have H2 := Lib.hid h2; clear h2)
    | (go_at_call 9; (with_reducible refine (N1.out _ _ h0.out).mono ?_); rintro e w1 ⟨g0, lb0, rfl, h1⟩; have H1 := Lib.hid h1; clear h1))
  all_goals
    go_ret
    exact ⟨by simp, H7.out.low⟩
end Go.Proofs.Ytepdhjcgpjjjlaa
end
section
namespace Go.Proofs.Ytepdhjcgpjjjlaa
open Go.ChangeShapes Go.WideShapes Go.ChangeAt Go.RowKit
section
variable {H : Type} {enc : TypeId × Value → H} {P : Program}
theorem post_of_below {f : Func} {s : ChangeSpec} {apart fresh handsOn again : Bool} {W W' : World} {args : Array Value} {v : Value} {ds gs : List (DataW H)} {before pa pv : List MemPlace}
    (hW : DataW.Whole enc P f.params.toList s.vars apart W args.toList ds gs before)
    (hres : ∀ (b : Nat) (sp : Nat → Bool) (hd : Bool), DataW.TrodAll enc P W' b sp hd f.resultTypes.toList (v.resultList f.resultTypes.size) (s.fn H (ds ++ gs)).results [])
    (hargs : ∀ sp : Nat → Bool, (∀ p ∈ before, sp p.block = true) → DataW.TrodAll enc P W' 0 sp true f.params.toList args.toList (s.fn H (ds ++ gs)).args pa)
    (hvars : ∀ sp : Nat → Bool, (∀ p ∈ before, sp p.block = true) → DataW.TrodVars enc P W' sp s.vars (s.fn H (ds ++ gs)).vars pv)
    (hps : before = pa ++ pv) (hb : Below W.heap.size W W')
    (hok : ∀ (j : Nat) (t : TypeId) (r : Value), f.resultTypes[j]? = some t → (v.resultList f.resultTypes.size)[j]? = some r → Value.okWide P W' .any 0 t r) :
    s.post enc P f apart fresh handsOn again W args v W' := by
  have hlt : ∀ p ∈ before, p.block < W.heap.size := fun p hp => hW.lt p hp
  have hold : ∀ p ∈ before, (fun b => decide (b < W.heap.size)) p.block = true := fun p hp => by simpa using hlt p hp
  refine ⟨ds, gs, before, [], pa, pv, hW, hres _ _ _, hargs _ hold, hvars _ hold, World.keptBut_mono (fun p hp => ⟨hp, ?_⟩) (hb.frame (· ∈ before)), fun _ => ?_⟩
  · rw [hps, List.mem_append] at hp
    exact Or.inr hp
  · obtain ⟨_, _, _, _, _, hz, hn⟩ := hW
    refine ⟨hok, _, _, ([] ++ pa) ++ pv, ⟨[] ++ pa, pv, trodAll_append (hargs _ (fun _ _ => rfl)) (hres _ _ _), hvars _ (fun _ _ => rfl), rfl, ?_, ?_⟩, ?_⟩
    · intro b off hp
      have hin : MemPlace.cell b off ∈ before := by rw [hps]; simpa using hp
      rw [hb.frozen (hlt _ hin)]
      exact hz b off hin
    · intro ha
      have := hn ha
      rw [hps] at this
      simpa using this
    · intro p hp _
      rw [hps]
      simpa using hp
end

theorem own : ownKnob Try.prog.godebug = none := by kernel_rfl
theorem laidOut : laidOutB Try.prog = true := by kernel_rfl
theorem u64_nat {n : Int} (h : (Lit.int .u64 n).wf = true) : ∃ m : Nat, n = m ∧ m < 18446744073709551616 := by
  simp [Lit.wf, IntKind.min, IntKind.max, IntKind.signed, IntKind.bits] at h
  exact ⟨n.toNat, by omega, by omega⟩
theorem u8_nat {n : Int} (h : (Lit.int .u8 n).wf = true) : ∃ m : Nat, n = m ∧ m < 256 := by
  simp [Lit.wf, IntKind.min, IntKind.max, IntKind.signed, IntKind.bits] at h
  exact ⟨n.toNat, by omega, by omega⟩
theorem i64_bounds {n : Int} (h : (Lit.int .i64 n).wf = true) : -9223372036854775808 ≤ n ∧ n < 9223372036854775808 := by
  simp [Lit.wf, IntKind.min, IntKind.max, IntKind.signed, IntKind.bits] at h
  omega
theorem cellsWord : Try.prog.cellsOf 31 = 1 := by kernel_rfl
theorem readWords : Try.prog.readableRec 22 = true := by kernel_rfl
theorem rowWords : 22 < Try.prog.types.size := of_decide_eq_true (by kernel_rfl)
theorem nats_of {zs : List Int} (h : ∀ n ∈ zs, (Lit.int .u64 n).wf = true) : ∃ xs : List Nat, (zs = xs.map fun a : Nat => (a : Int)) ∧ ∀ x ∈ xs, x < 18446744073709551616 := by
  induction zs with
  | nil => exact ⟨[], rfl, fun x hx => by cases hx⟩
  | cons z zs ih =>
    obtain ⟨xs, rfl, hxs⟩ := ih fun n hn => h n (List.mem_cons_of_mem _ hn)
    obtain ⟨m, rfl, hm⟩ := u64_nat (h z (by simp))
    refine ⟨m :: xs, by simp, fun x hx => ?_⟩
    rcases List.mem_cons.1 hx with rfl | hx
    · exact hm
    · exact hxs x hx

set_option maxRecDepth 100000 in
theorem open_rw {H : Type} {enc : TypeId × Value → H} {W : World} {b0 : Nat} {v : Value} {d : DataW H} {p : List MemPlace}
    (hval : Value.okWide Try.prog W .any b0 22 v) (h : DataW.Trod enc Try.prog W 0 (fun _ => true) true 22 v d p) (hlt : ∀ x ∈ p, x.block < W.heap.size) :
    ∃ A cp xs, v = .slice A xs.length cp ∧ Rw W W.heap.size A xs ∧ xs.length ≤ 9223372036854775807 ∧ ∀ x ∈ xs, x < 18446744073709551616 := by
  obtain ⟨a0, len, cap, rfl⟩ := okWide_slice Try.underlying22 hval
  obtain ⟨fuel, hf⟩ := h
  rcases open_ints Try.underlying22 Try.underlying31 cellsWord hf with ⟨hcs, hx⟩ | ⟨a, len', cap', zs, hcs, _, hl, hm, hz, hx, hcell, hwz⟩
  · simp [Value.cells] at hcs
    obtain ⟨rfl, rfl, rfl⟩ := hcs
    exact ⟨none, 0, [], rfl, fun h => absurd rfl h, by simp, fun x hx => by cases hx⟩
  · simp [Value.cells] at hcs
    obtain ⟨rfl, rfl, rfl⟩ := hcs
    simp only [Prod.mk.injEq] at hx
    obtain ⟨rfl, rfl⟩ := hx
    simp only [if_true] at hz
    obtain ⟨xs, rfl, hxs⟩ := nats_of hwz
    rw [List.length_map] at hz hcell hlt
    unfold maxLen at hm
    refine ⟨some a, cap, xs.take len, ?_, fun hne => ?_, by rw [List.length_take]; omega, fun x hx => hxs x (List.mem_of_mem_take hx)⟩
    · rw [List.length_take, Nat.min_eq_left (by omega)]
    · have hpos : 0 < xs.length := by
        rcases Nat.eq_zero_or_pos xs.length with h0 | h0
        · have : xs = [] := List.eq_nil_of_length_eq_zero h0
          subst this; simp at hne
        · exact h0
      obtain ⟨b, off, spot⟩ := a
      have hspot : spot = none := by simpa [Addr.add] using World.cell?_spot (hcell 0 hpos)
      subst hspot
      refine ⟨b, off, rfl, hlt (.cell b off) (MemPlace.mem_row.2 ⟨0, hpos, by simp⟩), fun k hk => ?_⟩
      rw [List.length_take] at hk
      have := hcell k (by omega)
      rw [add_plain] at this
      rw [this]
      simp [List.getD, show k < xs.length by omega]
end Go.Proofs.Ytepdhjcgpjjjlaa
end
section
namespace Go.Proofs.Ytepdhjcgpjjjlaa
set_option maxRecDepth 20000
open Go.RowKit Go.Shelf
section
variable {w W : World} {L : List (Value × List Nat)}
theorem bg_countN (h : Bg w W L) {f1 : Value} {x1 : List Nat} (m1 : (f1, x1) ∈ L) {n : Nat} (hn : x1.length = n) : Calls Try.prog 21 #[f1] W fun e w' => e = .returned (.int .i64 (n : Int)) ∧ Bg w w' L := by
  subst hn
  exact bg_count h m1
end
end Go.Proofs.Ytepdhjcgpjjjlaa
end
