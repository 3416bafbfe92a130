/- Boxes by their pointers, nil ones too; which numbers all of them have; the text walked. And, Both, Within, Equal, Meet, Less and Xor of boxes; the text walked. Or of boxes; the text walked. -/
import Derived.LaidEqlPtr
import Derived.Laws.Pointers
import Derived.Test.YtkehehfphccpbaaGreatDoorMgJa
import Derived.Test.YtkehehfphccpbaaGreatDoorMgBd
import Derived.Test.YtkehehfphccpbaaGreatDoorMgAc
section
namespace Go.Proofs.YtkehehfphccpbaaGreatDoor
set_option maxRecDepth 40000
open Go.RowKit
/-- A pointer to a box of these numbers; a nil one has none. -/
def Bp (w : World) (p : Option Addr) (xs : List Int) : Prop := (p = none ∧ xs = []) ∨ ∃ q r long, p = some ⟨q, 0, none⟩ ∧ Bo w q r xs long
section
variable {w w' : World} {p : Option Addr} {xs : List Int}
theorem Bp.next (h : Bp w p xs) (hb : Below w.heap.size w w') : Bp w' p xs := by
  rcases h with h | ⟨q, r, long, e, b⟩
  · exact .inl h
  · exact .inr ⟨q, r, long, e, b.next hb⟩
theorem Bp.up (h : Bp w p xs) : Up16 xs := by
  rcases h with ⟨_, rfl⟩ | ⟨q, r, long, e, b⟩
  · exact ⟨List.Pairwise.nil, by simp⟩
  · exact b.u
theorem Bp.told (h : Bp w p xs) : ∃ v, ToldP w p v ∧ Nm w w.heap.size v xs := by
  rcases h with ⟨rfl, rfl⟩ | ⟨q, r, long, rfl, b⟩
  · exact ⟨_, told_none w, Nm.empty w _⟩
  · exact b.told
theorem bp_Has (h : Bp w p xs) (x : Int) (h0 : 0 ≤ x) (h1 : x ≤ 65535) : Calls Tryz.prog 27 #[.pointer p, .int .u16 x] w (AskB w (decide (x ∈ xs))) := by
  obtain ⟨v, ht, m⟩ := h.told
  obtain ⟨n, rfl⟩ : ∃ n : Nat, x = (n : Int) := ⟨x.toNat, by omega⟩
  rw [← has_eq]
  exact box_Has w w.heap.size _ v xs n (by omega) ht m (Nat.le_refl _)
theorem bp_Len (h : Bp w p xs) : Calls Tryz.prog 21 #[.pointer p] w (AskI w ((xs).length : Nat)) := by
  obtain ⟨v, ht, m⟩ := h.told
  exact box_Len w w.heap.size _ v xs ht m (Nat.le_refl _)
theorem bp_List (h : Bp w p xs) (hT : Tab w) : Calls Tryz.prog 18 #[.pointer p] w (ListP w xs) := by
  obtain ⟨v, ht, m⟩ := h.told
  exact box_List w _ xs w.heap.size v ht m (Nat.le_refl _) hT
end
/-- Boxes, each with its numbers. -/
def Bps (w : World) (ps : List (Option Addr)) (nums : Option Addr → List Int) : Prop := ∀ p ∈ ps, Bp w p (nums p)
theorem Bps.next {w w' : World} {ps : List (Option Addr)} {nums : Option Addr → List Int} (h : Bps w ps nums) (hb : Below w.heap.size w w') : Bps w' ps nums := fun p hp => (h p hp).next hb
theorem com1_any (w : World) (p q : Option Addr) (xs ys : List Int) (a : Bp w p xs) (b : Bp w q ys) :
    Calls Tryz.prog 63 #[.pointer p, .pointer q] w fun e w' => ∃ c : Int, e = .returned (.int .i64 c) ∧ Below w.heap.size w w' := by
  have HA := Lib.hid (bp_Len a)
  have HB := Lib.hid (fun W (hW : Below w.heap.size w W) => bp_Len (b.next hW))
  clear a b
  go_enter Tryz.func63, Tryz.ntmps63
  go_wp2_with (first
    | (go_at_call 21; first | ((with_reducible refine HA.out.mono ?_); rintro e w1 ⟨rfl, hb1⟩; have HB1 := Lib.hid hb1; clear hb1 HA) | ((with_reducible refine (HB.out _ HB1.out).mono ?_); rintro e w2 ⟨rfl, hb2⟩; have HB2 := Lib.hid hb2; clear hb2 HB))
    | (go_at_call 64; (with_reducible refine (cmp_int _ _ _).mono ?_); rintro e w3 ⟨⟨cc, rfl⟩, rfl⟩))
  go_ret
  exact ⟨cc, rfl, HB1.out.trans (HB2.out.mono HB1.out.size)⟩
theorem neq_same (w : World) (ad : Addr) : (binOp .neq 24 (.pointer (some ad)) (.pointer (some ad))).run Tryz.prog w = .ok (.bool false) w := by
  obtain ⟨j, hte⟩ : ∃ j, Tryz.prog.info? 57 = some j := ⟨_, rfl⟩
  have hp : Tryz.prog.underlying 24 = some (.pointer 57) := by kernel_rfl
  have h : ∀ d : Nat, (Op.equalIn (d + 1) 24 (.pointer (some ad)) (.pointer (some ad))).run Tryz.prog w = .ok true w := fun d => by
    simp [Op.equalIn, run_underlying hp, sizeOf, typeInfo, hte, run_sameAddr_same]
  simp only [binOp]
  simp [Op.equal, Op.maxDepth, h 9999]
theorem neq_other (w : World) {a b : Addr} {ca cb : Array Value} {ta tb : TypeId} (hne : a ≠ b) (ha : w.heap[a.block]? = some (.cells ca ta (0, 0))) (hb : w.heap[b.block]? = some (.cells cb tb (0, 0))) :
    (binOp .neq 24 (.pointer (some a)) (.pointer (some b))).run Tryz.prog w = .ok (.bool true) w := by
  obtain ⟨j, hte, hsz⟩ : ∃ j, Tryz.prog.info? 57 = some j ∧ j.size ≠ 0 := ⟨_, rfl, by decide⟩
  have hp : Tryz.prog.underlying 24 = some (.pointer 57) := by kernel_rfl
  have h : ∀ d : Nat, (Op.equalIn (d + 1) 24 (.pointer (some a)) (.pointer (some b))).run Tryz.prog w = .ok false w := fun d => by
    simp [Op.equalIn, run_underlying hp, sizeOf, typeInfo, hte, hsz, run_sameAddr_other w hne ha hb]
  simp only [binOp]
  simp [Op.equal, Op.maxDepth, h 9999]
theorem neq_nil (w : World) (p : Option Addr) : (binOp .neq 24 (.pointer none) (.pointer p)).run Tryz.prog w = .ok (.bool (!p.isNone)) w := by
  have hp : Tryz.prog.underlying 24 = some (.pointer 57) := by kernel_rfl
  have h : ∀ d : Nat, (Op.equalIn (d + 1) 24 (.pointer none) (.pointer p)).run Tryz.prog w = .ok p.isNone w := fun d => by
    cases p <;> simp [Op.equalIn, run_underlying hp]
  simp only [binOp]
  simp [Op.equal, Op.maxDepth, h 9999]
theorem neq_bp {w : World} {p f : Option Addr} {xs ys : List Int} (a : Bp w p xs) (b : Bp w f ys) : (binOp .neq 24 (.pointer p) (.pointer f)).run Tryz.prog w = .ok (.bool (decide (p ≠ f))) w := by
  rcases a with ⟨rfl, _⟩ | ⟨q, r, long, rfl, a⟩
  · rw [neq_nil]
    cases f <;> simp
  · rcases b with ⟨rfl, _⟩ | ⟨q2, r2, long2, rfl, b⟩
    · rw [run_neq_pointer_nil w _ _ (by kernel_rfl)]
      simp
    · obtain ⟨v, h1, _⟩ := a.kept
      obtain ⟨v2, h2, _⟩ := b.kept
      by_cases e : q = q2
      · subst e
        rw [neq_same]
        simp
      · rw [neq_other w (by intro h; cases h; exact e rfl) h1.row h2.row]
        have e2 : decide ((some ⟨q, 0, none⟩ : Option Addr) ≠ some ⟨q2, 0, none⟩) = true := decide_eq_true (by intro h; cases h; exact e rfl)
        rw [e2]
theorem com21_any (w : World) (p fw : Option Addr) (pf pv : Nat) (xs : List Int) (x : Int) (h0 : 0 ≤ x) (h1 : x ≤ 65535) (a : Bp w p xs) (fs : List Int) (af : Bp w fw fs) (cf : w.cell? ⟨pf, 0, none⟩ = some (.pointer fw)) (cv : w.cell? ⟨pv, 0, none⟩ = some (.int .u16 x)) :
    Calls Tryz.prog 67 #[.pointer p, .pointer (some ⟨pf, 0, none⟩), .pointer (some ⟨pv, 0, none⟩)] w fun e w' => e = .returned (.bool (decide (p ≠ fw) && !decide (x ∈ xs))) ∧ Below w.heap.size w w' := by
  have HH := Lib.hid (bp_Has a x h0 h1)
  have hne := neq_bp a af
  clear af
  by_cases e : p = fw
  · subst e
    have hd : (decide (p ≠ p) && !decide (x ∈ xs)) = false := by simp
    rw [hd]
    rw [decide_eq_false (by simp)] at hne
    clear a hd
    go_enter Tryz.func67, Tryz.ntmps67
    go_wp2_with (go_at_call 27; (with_reducible refine HH.out.mono ?_); rintro e w1 ⟨rfl, hb1⟩; have HB1 := Lib.hid hb1; clear hb1)
    go_ret
    exact ⟨by simp, Below.refl _ _⟩
  · have hd : (decide (p ≠ fw) && !decide (x ∈ xs)) = !decide (x ∈ xs) := by simp [e]
    rw [hd]
    rw [decide_eq_true e] at hne
    clear a hd
    go_enter Tryz.func67, Tryz.ntmps67
    go_wp2_with (go_at_call 27; (with_reducible refine HH.out.mono ?_); rintro e w1 ⟨rfl, hb1⟩; have HB1 := Lib.hid hb1; clear hb1)
    go_ret
    exact ⟨by simp, HB1.out⟩
/-- Is a number lacking in one of the others? -/
def lacks (ps : List (Option Addr)) (nums : Option Addr → List Int) (fw : Option Addr) (x : Int) : Bool := ps.any fun p => decide (p ≠ fw) && !decide (x ∈ nums p)
theorem com2_any (w : World) (U : Option Addr) (c : Nat) (ps : List (Option Addr)) (nums : Option Addr → List Int) (fw : Option Addr) (pl pf : Nat) (x : Int) (h0 : 0 ≤ x) (h1 : x ≤ 65535) (hr : Pps w U ps) (few : ps.length ≤ 1000000) (hb : Bps w ps nums) (hfw : fw ∈ ps)
    (cl : w.cell? ⟨pl, 0, none⟩ = some (.slice U ps.length c)) (hpl : pl < w.heap.size) (cf : w.cell? ⟨pf, 0, none⟩ = some (.pointer fw)) (hpf : pf < w.heap.size) :
    Calls Tryz.prog 65 #[.int .u16 x, .pointer (some ⟨pl, 0, none⟩), .pointer (some ⟨pf, 0, none⟩)] w fun e w' => e = .returned (.bool (lacks ps nums fw x)) ∧ Below w.heap.size w w' := by
  have hB0 : Below w.heap.size w (w.alloc (.cells #[.int .u16 x] 35)) := (Below.refl _ w).alloc (Nat.le_refl _) _
  have hx0 : (w.alloc (.cells #[.int .u16 x] 35)).cell? ⟨w.heap.size, 0, none⟩ = some (.int .u16 x) := by simp
  have hz0 : (w.alloc (.cells #[.int .u16 x] 35)).heap.size = w.heap.size + 1 := by simp
  have H := Lib.hid (cont_any (w.alloc (.cells #[.int .u16 x] 35)) U c ps (fun p => decide (p ≠ fw) && !decide (x ∈ nums p)) (hr.below hB0) few (some ⟨pf, 0, none⟩) (some ⟨w.heap.size, 0, none⟩) (fun W p hW hp =>
    com21_any W p fw pf w.heap.size (nums p) x h0 h1 (((hb p hp).next hB0).next hW) (nums fw) (((hb fw hfw).next hB0).next hW) ((hW.cell (p := ⟨pf, 0, none⟩) (by show pf < _; omega)).trans ((hB0.cell (p := ⟨pf, 0, none⟩) hpf).trans cf)) ((hW.cell (p := ⟨w.heap.size, 0, none⟩) (by show w.heap.size < _; omega)).trans hx0)))
  have cl0 : (w.alloc (.cells #[.int .u16 x] 35)).cell? ⟨pl, 0, none⟩ = some (.slice U ps.length c) := (hB0.cell (p := ⟨pl, 0, none⟩) hpl).trans cl
  have HB0 := Lib.hid hB0
  obtain ⟨n, hn⟩ : ∃ n, ps.length = n := ⟨_, rfl⟩
  rw [hn] at H cl0
  have e : ps.any (fun p => decide (p ≠ fw) && !decide (x ∈ nums p)) = lacks ps nums fw x := rfl
  rw [e] at H
  clear hr few hb cf hpf hB0 hx0 hz0 e cl hpl
  go_enter Tryz.func65, Tryz.ntmps65
  go_wp2_with (go_at_call 66; (with_reducible refine H.out.mono ?_); rintro e w2 ⟨rfl, hb2⟩; have HB2 := Lib.hid (HB0.out.trans (hb2.mono HB0.out.size)); clear hb2 H)
  go_ret
  exact ⟨rfl, HB2.out⟩
/-- What all of some boxes have, in new memory. -/
def ComP (w : World) (ps : List (Option Addr)) (nums : Option Addr → List Int) (e : Ending) (w' : World) : Prop :=
  ∃ v zs, e = .returned v ∧ zs.Pairwise (· < ·) ∧ (∀ x, x ∈ zs ↔ ps ≠ [] ∧ ∀ p ∈ ps, x ∈ nums p) ∧ w'.ownsRow w.heap.size 35 1 v zs.length (hv zs) ∧ Below w.heap.size w w'
set_option maxHeartbeats 4000000 in
theorem common_any (w : World) (U : Option Addr) (c : Nat) (ps : List (Option Addr)) (nums : Option Addr → List Int) (hr : Pps w U ps) (few : ps.length ≤ 1000000) (hb : Bps w ps nums) (hT : Tab w) :
    Calls Tryz.prog 39 #[.slice U ps.length c] w (ComP w ps nums) := by
  have hB0 : Below w.heap.size w (w.alloc (.cells #[.slice U ps.length c] 41)) := (Below.refl _ w).alloc (Nat.le_refl _) _
  rcases Nat.eq_zero_or_pos ps.length with h0 | h0
  · have hps := List.eq_nil_of_length_eq_zero h0
    subst hps
    have HB0 := Lib.hid hB0
    clear hB0 hr hb few
    go_enter Tryz.func39, Tryz.ntmps39
    go_wp2
    go_ret
    exact ⟨_, [], rfl, List.Pairwise.nil, fun x => ⟨fun h => by (cases h), fun h => absurd rfl h.1⟩, by simp [World.ownsRow_nil, hv], HB0.out⟩
  · obtain ⟨w0, hw0⟩ : ∃ w0, w.alloc (.cells #[.slice U ps.length c] 41) = w0 := ⟨_, rfl⟩
    have hcl : w0.cell? ⟨w.heap.size, 0, none⟩ = some (.slice U ps.length c) := by rw [← hw0]; simp
    have hz0 : w0.heap.size = w.heap.size + 1 := by rw [← hw0]; simp
    rw [hw0] at hB0
    have hne : ps ≠ [] := fun e => by subst e; simp at h0
    have HMIN := Lib.hid (min_any w0 U c ps (hr.below hB0) h0 few (fun W p q hW hp hq => com1_any W p q (nums p) (nums q) (((hb p hp).next hB0).next hW) (((hb q hq).next hB0).next hW)))
    have HB0 := Lib.hid hB0
    have HR := Lib.hid hr
    have HB := Lib.hid hb
    have HT := Lib.hid hT
    have HZ0 := Lib.hid hz0
    have HCL := Lib.hid hcl
    have HW0 := Lib.hid hw0
    have HNE := Lib.hid hne
    have n1 : ((ps.length : Int) == 0) = false := beq_eq_false_iff_ne.2 (by omega)
    have n2 : (ps.length == 0) = false := beq_eq_false_iff_ne.2 (by omega)
    have n3 : ¬ ps.length = 0 := by omega
    clear hB0 hr hb hT hz0 hw0 hne hcl
    go_enter Tryz.func39, Tryz.ntmps39
    go_wp2_with fail
    rw [HW0.out]
    have hcl := HCL.out
    go_wp2_with (first
      | (go_at_call 62; (with_reducible refine HMIN.out.mono ?_); rintro e w1 ⟨fw, hfw, rfl, hb1⟩
         have HFW := Lib.hid hfw
         have HB1 := Lib.hid hb1
         have HB1w : Hid (Below w.heap.size w w1) := Lib.hid (HB0.out.trans (hb1.mono HB0.out.size))
         have HBA : Hid (Below w.heap.size w (w1.alloc (.cells #[.pointer fw] 24))) := Lib.hid (HB1w.out.alloc HB1w.out.size _)
         have HLI := Lib.hid (bp_List ((HB.out fw hfw).next HBA.out) (HT.out.below HBA.out HT.out.pos))
         clear hfw hb1 HMIN hcl)
      | (go_at_call 18; (with_reducible refine HLI.out.mono ?_); rintro e w2 ⟨v2, rfl, ho2, hb2⟩
         have HO2 := Lib.hid ho2
         have HB2 := Lib.hid hb2
         have hup := (HB.out fw HFW.out).up
         have HUP := Lib.hid hup
         have HDL := Lib.hid (del_com w2 _ v2 (nums fw) (lacks ps nums fw) ho2 hup.range (by have := hup.few; omega) (some ⟨w.heap.size, 0, none⟩) (some ⟨w1.heap.size, 0, none⟩) (fun W x hW h1 h2 => by
           have z0 := HZ0.out
           have z1 := HB1.out.size
           have za : (w1.alloc (.cells #[.pointer fw] 24)).heap.size = w1.heap.size + 1 := by simp
           have hbW : Below (w1.alloc (.cells #[.pointer fw] 24)).heap.size (w1.alloc (.cells #[.pointer fw] 24)) W := HB2.out.trans (hW.below HB2.out.size (fun j hj => by have h9 := ho2.lt j hj; omega))
           have hbw : Below w.heap.size w W := HBA.out.trans (hbW.mono HBA.out.size)
           have hb01 : Below w0.heap.size w0 (w1.alloc (.cells #[.pointer fw] 24)) := HB1.out.alloc HB1.out.size _
           have hb0W : Below w0.heap.size w0 W := hb01.trans (hbW.mono hb01.size)
           exact com2_any W U c ps nums fw w.heap.size w1.heap.size x h1 h2 (HR.out.below hbw) few (HB.out.next hbw) HFW.out ((hb0W.cell (p := ⟨w.heap.size, 0, none⟩) (by show w.heap.size < _; omega)).trans HCL.out) (by have := hb0W.size; omega) ((hbW.cell (p := ⟨w1.heap.size, 0, none⟩) (by show w1.heap.size < _; omega)).trans (by simp)) (by have := hbW.size; omega)))
         clear ho2 hb2 hup HLI)
      | (go_at_call 40; (with_reducible refine HDL.out.mono ?_); rintro e w3 ⟨u3, rfl, ho3, hb3⟩; have HO3 := Lib.hid ho3; have HB3 := Lib.hid hb3; clear ho3 hb3 HDL))
    go_ret
    have hbW : Below w.heap.size w w2 := HBA.out.trans (HB2.out.mono HBA.out.size)
    refine ⟨u3, _, rfl, HUP.out.up.filter _, fun x => ?_, own_lowX HO3.out HBA.out.size, hbW.trans (HB3.out.below hbW.size (fun j hj => by have h9 := HO2.out.lt j hj; have := HBA.out.size; omega))⟩
    rw [List.mem_filter]
    have hl : (!lacks ps nums fw x) = true ↔ ∀ p ∈ ps, p = fw ∨ x ∈ nums p := by
      rw [Bool.not_eq_true', lacks, List.any_eq_false]
      constructor
      · intro h p hp
        have := h p hp
        by_cases e : p = fw
        · exact .inl e
        · right
          simpa [e] using this
      · intro h p hp
        rcases h p hp with e | e
        · simp [e]
        · simp [e]
    rw [hl]
    constructor
    · rintro ⟨h1, h2⟩
      refine ⟨HNE.out, fun p hp => ?_⟩
      rcases h2 p hp with e | e
      · rw [e]; exact h1
      · exact e
    · rintro ⟨_, h2⟩
      exact ⟨h2 fw HFW.out, fun p hp => .inr (h2 p hp)⟩
end Go.Proofs.YtkehehfphccpbaaGreatDoor
end
section
namespace Go.Proofs.YtkehehfphccpbaaGreatDoor
set_option maxRecDepth 40000
open Go.RowKit
/-- What both lists have. -/
def capL (xs ys : List Int) : List Int := xs.filter fun x => decide (x ∈ ys)
theorem capL_in {xs ys : List Int} {x : Int} : x ∈ capL xs ys ↔ x ∈ xs ∧ x ∈ ys := by
  unfold capL
  rw [List.mem_filter, decide_eq_true_eq]
theorem capL_all {xs ys : List Int} : (capL xs ys).length = xs.length ↔ ∀ x ∈ xs, x ∈ ys := by
  unfold capL
  rw [List.length_filter_eq_length_iff]
  exact ⟨fun h x hx => of_decide_eq_true (h x hx), fun h x hx => decide_eq_true (h x hx)⟩
theorem capL_le (xs ys : List Int) : (capL xs ys).length ≤ xs.length := List.length_filter_le _ _
theorem pps_two (w : World) (p q : Option Addr) : Pps (w.alloc (.cells #[.pointer p, .pointer q] 24)) (some ⟨w.heap.size, 0, none⟩) [p, q] := fun _ => by
  refine ⟨w.heap.size, 0, rfl, by simp, fun k hk => ?_⟩
  rw [Nat.zero_add, cell_of_row _ w.heap.size k _ _ (0, 0) (alloc_top w _ rfl)]
  match k, hk with
  | 0, _ => rfl
  | 1, _ => rfl
/-- The numbers of two boxes. -/
def two (p : Option Addr) (xs ys : List Int) : Option Addr → List Int := fun q => if q = p then xs else ys
theorem two_bps {w : World} {p q : Option Addr} {xs ys : List Int} (a : Bp w p xs) (b : Bp w q ys) (he : q = p → ys = xs) : Bps w [p, q] (two p xs ys) := fun o ho => by
  unfold two
  rcases List.mem_cons.1 ho with e | e
  · subst e; rw [if_pos rfl]; exact a
  · rw [List.mem_singleton.1 e]
    by_cases e2 : q = p
    · rw [if_pos e2, ← he e2]; exact b
    · rw [if_neg e2]; exact b
theorem two_all {p q : Option Addr} {xs ys : List Int} (he : q = p → ys = xs) {x : Int} : (∀ o ∈ [p, q], x ∈ two p xs ys o) ↔ x ∈ xs ∧ x ∈ ys := by
  have h1 : two p xs ys p = xs := by unfold two; rw [if_pos rfl]
  have h2 : two p xs ys q = ys := by
    unfold two
    by_cases e : q = p
    · rw [if_pos e, he e]
    · rw [if_neg e]
  simp [h1, h2]
theorem two_some {p q : Option Addr} {xs ys : List Int} (he : q = p → ys = xs) {x : Int} : (∃ o ∈ [p, q], x ∈ two p xs ys o) ↔ x ∈ xs ∨ x ∈ ys := by
  have h1 : two p xs ys p = xs := by unfold two; rw [if_pos rfl]
  have h2 : two p xs ys q = ys := by
    unfold two
    by_cases e : q = p
    · rw [if_pos e, he e]
    · rw [if_neg e]
  simp [h1, h2]
theorem and_any (w : World) (U : Option Addr) (c : Nat) (ps : List (Option Addr)) (nums : Option Addr → List Int) (hr : Pps w U ps) (few : ps.length ≤ 1000000) (hb : Bps w ps nums) (hT : Tab w) :
    Calls Tryz.prog 12 #[.slice U ps.length c] w fun e w' => ∃ ys, (∀ x, x ∈ ys ↔ ps ≠ [] ∧ ∀ p ∈ ps, x ∈ nums p) ∧ NewP w ys e w' := by
  have HC := Lib.hid (common_any w U c ps nums hr few hb hT)
  have HB := Lib.hid hb
  have HT := Lib.hid hT
  obtain ⟨n, hn⟩ : ∃ n, ps.length = n := ⟨_, rfl⟩
  rw [hn] at HC ⊢
  clear hr few hb hT hn
  go_enter Tryz.func12, Tryz.ntmps12
  go_wp2_with (first
    | (go_at_call 39; (with_reducible refine HC.out.mono ?_); rintro e w1 ⟨v, zs, rfl, hz1, hz2, ho, hb1⟩
       obtain ⟨U1, c1, rfl, hr1, _⟩ := Rh.of_own ho
       have hzr : ∀ y ∈ zs, 0 ≤ y ∧ y ≤ 65535 := fun y hy => by
         obtain ⟨hne, hall⟩ := (hz2 y).1 hy
         obtain ⟨p, hp⟩ := List.exists_mem_of_ne_nil ps hne
         exact (HB.out p hp).up.range y (hall p hp)
       have HZ2 := Lib.hid hz2
       have HB1 := Lib.hid hb1
       have HO := Lib.hid (box_Of w1 w1.heap.size zs.length c1 U1 zs rfl hr1 (Nat.le_refl _) (by have := up_few hz1 hzr; omega) hzr (HT.out.below hb1 HT.out.pos))
       clear hz1 hz2 ho hb1 hr1 hzr HC)
    | (go_at_call 26; (with_reducible refine HO.out.mono ?_); rintro e w2 ⟨ys, hy, q, r, rfl, h1, h2, h3, h4⟩
       have HQ := Lib.hid (And.intro hy (And.intro h1 (And.intro h2 (And.intro h3 h4))))
       clear hy h1 h2 h3 h4 HO))
  go_ret
  obtain ⟨hy, h1, h2, h3, h4⟩ := HQ.out
  have z := HB1.out.size
  exact ⟨ys, fun x => by rw [hy x, HZ2.out x], q, r, rfl, h1, by omega, fun e => by have := h3 e; omega, HB1.out.trans (h4.mono z)⟩
theorem both_any (w : World) (p q : Option Addr) (xs ys : List Int) (a : Bp w p xs) (b : Bp w q ys) (he : q = p → ys = xs) (hT : Tab w) :
    Calls Tryz.prog 22 #[.pointer p, .pointer q] w (AskI w ((capL xs ys).length : Nat)) := by
  have hB0 : Below w.heap.size w (w.alloc (.cells #[.pointer p, .pointer q] 24)) := (Below.refl _ w).alloc (Nat.le_refl _) _
  have HC : Hid (Calls Tryz.prog 39 #[.slice (some ⟨w.heap.size, 0, none⟩) 2 2] (w.alloc (.cells #[.pointer p, .pointer q] 24)) (ComP (w.alloc (.cells #[.pointer p, .pointer q] 24)) [p, q] (two p xs ys))) := Lib.hid (common_any (w.alloc (.cells #[.pointer p, .pointer q] 24)) (some ⟨w.heap.size, 0, none⟩) 2 [p, q] (two p xs ys) (pps_two w p q) (by simp) ((two_bps a b he).next hB0) (hT.below hB0 hT.pos))
  have HB0 := Lib.hid hB0
  have HE := Lib.hid he
  have HU := Lib.hid a.up.up
  clear a b he hT hB0
  go_enter Tryz.func22, Tryz.ntmps22
  go_wp2_with (go_at_call 39; (with_reducible refine HC.out.mono ?_); rintro e w1 ⟨v, zs, rfl, hz1, hz2, ho, hb1⟩
               obtain rfl : zs = capL xs ys := M.sorted_ext hz1 (HU.out.filter _) (fun x => by
                 rw [hz2 x, two_all HE.out, capL_in]
                 exact ⟨fun h => h.2, fun h => ⟨by simp, h⟩⟩)
               obtain ⟨U1, c1, rfl, hr1, _⟩ := Rh.of_own ho
               have HB1 := Lib.hid (HB0.out.trans (hb1.mono HB0.out.size))
               clear hz1 hz2 ho hb1 hr1 HC)
  go_ret
  exact ⟨rfl, HB1.out⟩
theorem within_any (w : World) (p q : Option Addr) (xs ys : List Int) (a : Bp w p xs) (b : Bp w q ys) (he : q = p → ys = xs) (hT : Tab w) :
    Calls Tryz.prog 25 #[.pointer p, .pointer q] w (AskB w (decide (∀ x ∈ xs, x ∈ ys))) := by
  have HC := Lib.hid (both_any w p q xs ys a b he hT)
  have HL := Lib.hid (fun W (hW : Below w.heap.size w W) => bp_Len (a.next hW))
  have e : decide (∀ x ∈ xs, x ∈ ys) = (((capL xs ys).length : Int) == (xs.length : Int)) := by
    rw [Bool.eq_iff_iff, decide_eq_true_eq, beq_iff_eq, ← capL_all]
    omega
  rw [e]
  clear a b he hT e
  generalize (capL xs ys).length = m at *
  go_enter Tryz.func25, Tryz.ntmps25
  go_wp2_with (first
    | (go_at_call 22; (with_reducible refine HC.out.mono ?_); rintro e w1 ⟨rfl, hb1⟩; have HB1 := Lib.hid hb1; clear hb1 HC)
    | (go_at_call 21; (with_reducible refine (HL.out _ HB1.out).mono ?_); rintro e w2 ⟨rfl, hb2⟩; have HB2 := Lib.hid hb2; clear hb2 HL))
  go_ret
  exact ⟨by first | rfl | simp, HB1.out.trans (HB2.out.mono HB1.out.size)⟩
theorem meet_any (w : World) (p q : Option Addr) (xs ys : List Int) (a : Bp w p xs) (b : Bp w q ys) (he : q = p → ys = xs) (hT : Tab w) :
    Calls Tryz.prog 24 #[.pointer p, .pointer q] w (AskB w (decide (0 < (capL xs ys).length))) := by
  have HC := Lib.hid (both_any w p q xs ys a b he hT)
  clear a b he hT
  generalize (capL xs ys).length = m at *
  go_enter Tryz.func24, Tryz.ntmps24
  go_wp2_with (go_at_call 22; (with_reducible refine HC.out.mono ?_); rintro e w1 ⟨rfl, hb1⟩; have HB1 := Lib.hid hb1; clear hb1 HC)
  go_ret
  exact ⟨by simp, HB1.out⟩
theorem equal_any (w : World) (p q : Option Addr) (xs ys : List Int) (a : Bp w p xs) (b : Bp w q ys) (he : q = p → ys = xs) (hT : Tab w) :
    Calls Tryz.prog 23 #[.pointer p, .pointer q] w (AskB w (decide (xs = ys))) := by
  have HL1 := Lib.hid (bp_Len a)
  have HL2 := Lib.hid (fun W (hW : Below w.heap.size w W) => bp_Len (b.next hW))
  have HW := Lib.hid (fun W (hW : Below w.heap.size w W) => within_any W p q xs ys (a.next hW) (b.next hW) he (hT.below hW hT.pos))
  by_cases hl : xs.length = ys.length
  · have e : decide (xs = ys) = decide (∀ x ∈ xs, x ∈ ys) := by
      rw [Bool.eq_iff_iff, decide_eq_true_eq, decide_eq_true_eq]
      exact ⟨fun h => by rw [h]; exact fun x hx => hx, fun h => sub_same a.up.up b.up.up h (by omega)⟩
    rw [e]
    have d1 : ((xs.length : Int) == (ys.length : Int)) = true := beq_iff_eq.2 (by omega)
    have d2 : (xs.length == ys.length) = true := beq_iff_eq.2 hl
    clear a b he hT e
    generalize decide (∀ x ∈ xs, x ∈ ys) = bb at *
    go_enter Tryz.func23, Tryz.ntmps23
    go_wp2_with (first
      | (go_at_call 21; first | ((with_reducible refine HL1.out.mono ?_); rintro e w1 ⟨rfl, hb1⟩; have HB1 := Lib.hid hb1; clear hb1 HL1) | ((with_reducible refine (HL2.out _ HB1.out).mono ?_); rintro e w2 ⟨rfl, hb2⟩; have HB2 : Hid (Below w.heap.size w w2) := Lib.hid (HB1.out.trans (hb2.mono HB1.out.size)); clear hb2 HL2))
      | (go_at_call 25; (with_reducible refine (HW.out _ HB2.out).mono ?_); rintro e w3 ⟨rfl, hb3⟩; have HB3 := Lib.hid (HB2.out.trans (hb3.mono HB2.out.size)); clear hb3 HW))
    go_ret
    exact ⟨by first | rfl | simp, HB3.out⟩
  · have e : decide (xs = ys) = false := decide_eq_false (fun h => hl (by rw [h]))
    rw [e]
    have d1 : ((xs.length : Int) == (ys.length : Int)) = false := beq_eq_false_iff_ne.2 (by omega)
    have d2 : (xs.length == ys.length) = false := beq_eq_false_iff_ne.2 hl
    clear a b he hT e
    go_enter Tryz.func23, Tryz.ntmps23
    go_wp2_with (first
      | (go_at_call 21; first | ((with_reducible refine HL1.out.mono ?_); rintro e w1 ⟨rfl, hb1⟩; have HB1 := Lib.hid hb1; clear hb1 HL1) | ((with_reducible refine (HL2.out _ HB1.out).mono ?_); rintro e w2 ⟨rfl, hb2⟩; have HB2 : Hid (Below w.heap.size w w2) := Lib.hid (HB1.out.trans (hb2.mono HB1.out.size)); clear hb2 HL2))
      | (go_at_call 25; (with_reducible refine (HW.out _ HB2.out).mono ?_); rintro e w3 ⟨rfl, hb3⟩; have HB3 := Lib.hid (HB2.out.trans (hb3.mono HB2.out.size)); clear hb3 HW))
    go_ret
    exact ⟨by first | rfl | simp, HB2.out⟩
set_option maxHeartbeats 4000000 in
theorem less_any (w : World) (p q : Option Addr) (xs ys : List Int) (a : Bp w p xs) (b : Bp w q ys) (hT : Tab w) :
    Calls Tryz.prog 13 #[.pointer p, .pointer q] w fun e w' => ∃ zs, (∀ x, x ∈ zs ↔ x ∈ xs ∧ ¬ x ∈ ys) ∧ NewP w zs e w' := by
  have HLI := Lib.hid (bp_List a hT)
  have HU := Lib.hid a.up
  have HB := Lib.hid b
  have HT := Lib.hid hT
  clear a b hT
  go_enter Tryz.func13, Tryz.ntmps13
  go_wp2_with (first
    | (go_at_call 18; (with_reducible refine HLI.out.mono ?_); rintro e w1 ⟨v1, rfl, ho1, hb1⟩
       have HB1 := Lib.hid hb1
       have HO1 := Lib.hid ho1
       have HDL := Lib.hid (del_has w1 _ v1 xs (fun x => decide (x ∈ ys)) ho1 HU.out.range (by have := HU.out.few; omega) q (fun W x hW h1 h2 => bp_Has (HB.out.next (hb1.trans (hW.below hb1.size (fun j hj => (ho1.lt j hj).1)))) x h1 h2))
       clear ho1 hb1 HLI)
    | (go_at_call 40; (with_reducible refine HDL.out.mono ?_); rintro e w2 ⟨u2, rfl, ho2, hb2⟩
       obtain ⟨U2, c2, rfl, hr2, _⟩ := Rh.of_own ho2
       have hb2w : Below w.heap.size w w2 := HB1.out.trans (hb2.below HB1.out.size (fun j hj => (HO1.out.lt j hj).1))
       have HB2 := Lib.hid hb2w
       have HO := Lib.hid (box_Of w2 w2.heap.size _ c2 U2 _ rfl hr2 (Nat.le_refl _) (Nat.le_trans (List.length_filter_le _ _) (by have := HU.out.few; omega)) (fun y hy => HU.out.range y (List.mem_filter.1 hy).1) (HT.out.below hb2w HT.out.pos))
       clear ho2 hb2 hb2w hr2 HDL)
    | (go_at_call 26; (with_reducible refine HO.out.mono ?_); rintro e w3 ⟨zs, hz, q3, r3, rfl, h1, h2, h3, h4⟩
       have HQ := Lib.hid (And.intro hz (And.intro h1 (And.intro h2 (And.intro h3 h4))))
       clear hz h1 h2 h3 h4 HO))
  go_ret
  obtain ⟨hz, h1, h2, h3, h4⟩ := HQ.out
  have z := HB2.out.size
  exact ⟨zs, fun x => by rw [hz x, List.mem_filter]; simp, q3, r3, rfl, h1, by omega, fun e => by have := h3 e; omega, HB2.out.trans (h4.mono z)⟩
set_option maxHeartbeats 4000000 in
theorem xor_any (w : World) (p q : Option Addr) (xs ys : List Int) (a : Bp w p xs) (b : Bp w q ys) (hT : Tab w) :
    Calls Tryz.prog 14 #[.pointer p, .pointer q] w fun e w' => ∃ zs, (∀ x, x ∈ zs ↔ (x ∈ xs ∧ ¬ x ∈ ys) ∨ (x ∈ ys ∧ ¬ x ∈ xs)) ∧ NewP w zs e w' := by
  have HLI := Lib.hid (bp_List a hT)
  have HL2 := Lib.hid (fun W (hW : Below w.heap.size w W) => bp_List (b.next hW) (hT.below hW hT.pos))
  have HU := Lib.hid a.up
  have HV := Lib.hid b.up
  have HT := Lib.hid hT
  clear a b hT
  go_enter Tryz.func14, Tryz.ntmps14
  go_wp2_with (first
    | (go_at_call 18; first
       | ((with_reducible refine HLI.out.mono ?_); rintro e w1 ⟨v1, rfl, ho1, hb1⟩
          obtain ⟨U1, c1, rfl, hr1, _⟩ := Rh.of_own ho1
          have hc1 := own_cap ho1 U1 c1 rfl
          have HR1 := Lib.hid hr1
          have HB1 := Lib.hid hb1
          clear ho1 hb1 hr1 HLI)
       | ((with_reducible refine (HL2.out _ HB1.out).mono ?_); rintro e w2 ⟨v2, rfl, ho2, hb2⟩
          obtain ⟨U2, c2, rfl, hr2, _⟩ := Rh.of_own ho2
          have hc2 := own_cap ho2 U2 c2 rfl
          have HR2 := Lib.hid hr2
          have HB2 : Hid (Below w.heap.size w w2) := Lib.hid (HB1.out.trans (hb2.mono HB1.out.size))
          have HX := Lib.hid (A.a_xor w2 w2.heap.size xs.length c1 ys.length c2 U1 U2 xs ys (Nat.le_refl _) rfl rfl hc1 hc2 ((HR1.out.below hb2 (Nat.le_refl _)).more hb2.size) hr2 HU.out.up HV.out.up (by have := HU.out.few; omega) (by have := HV.out.few; omega))
          clear ho2 hb2 hr2 HL2))
    | (go_at_call 41; (with_reducible refine HX.out.mono ?_); rintro e w3 ⟨v3, zs, rfl, hz1, hz2, hz3, ho3, hb3⟩
       obtain ⟨U3, c3, rfl, hr3, _⟩ := Rh.of_own ho3
       have hz4 : ∀ x, x ∈ zs ↔ (x ∈ xs ∧ ¬ x ∈ ys) ∨ (x ∈ ys ∧ ¬ x ∈ xs) := fun x => by
         rw [hz2 x]
         unfold M.Wt
         by_cases e1 : x ∈ xs <;> by_cases e2 : x ∈ ys <;> simp [e1, e2]
       have HZ4 := Lib.hid hz4
       have hb3w : Below w.heap.size w w3 := HB2.out.trans (hb3.mono HB2.out.size)
       have HB3 := Lib.hid hb3w
       have hzr : ∀ y ∈ zs, 0 ≤ y ∧ y ≤ 65535 := fun y hy => by
         rcases (hz4 y).1 hy with h | h
         · exact HU.out.range y h.1
         · exact HV.out.range y h.1
       have HO := Lib.hid (box_Of w3 w3.heap.size _ c3 U3 _ rfl hr3 (Nat.le_refl _) (by have := up_few hz1 hzr; omega) hzr (HT.out.below hb3w HT.out.pos))
       clear hz1 hz2 hz3 hz4 ho3 hb3 hb3w hr3 hzr HX)
    | (go_at_call 26; (with_reducible refine HO.out.mono ?_); rintro e w4 ⟨zs4, hz, q4, r4, rfl, h1, h2, h3, h4⟩
       have HQ := Lib.hid (And.intro hz (And.intro h1 (And.intro h2 (And.intro h3 h4))))
       clear hz h1 h2 h3 h4 HO))
  go_ret
  obtain ⟨hz, h1, h2, h3, h4⟩ := HQ.out
  have z := HB3.out.size
  exact ⟨zs4, fun x => by rw [hz x, HZ4.out x], q4, r4, rfl, h1, by omega, fun e => by have := h3 e; omega, HB3.out.trans (h4.mono z)⟩
end Go.Proofs.YtkehehfphccpbaaGreatDoor
end
section
namespace Go.Proofs.YtkehehfphccpbaaGreatDoor
set_option maxRecDepth 40000
open Go.RowKit
theorem Rh.keepBm {w w' : World} {B p s h : Nat} {U : Option Addr} {xs : List Int} {ws : List Nat} (r : Rh w B U xs) (m : Bm w p s h ws) (hg : w.grownBy w' (some h)) (hB : B ≤ w.heap.size) : Rh w' B U xs := fun hne => by
  obtain ⟨b, off, h1, h2, h3⟩ := r hne
  refine ⟨b, off, h1, h2, fun k hk => ?_⟩
  have hb : b ≠ h := fun e => by
    have c := h3 k hk
    subst e
    rw [cell_of_row _ _ _ _ _ (0, 0) m.st.2.1, List.getElem?_toArray, List.getElem?_map] at c
    cases e2 : ws[off + k]? with
    | none => rw [e2] at c; cases c
    | some x => rw [e2] at c; cases c
  have c := h3 k hk
  have hh := hg.block b (by omega) (by intro e; cases e; exact hb rfl)
  unfold World.cell? at c ⊢
  rw [hh]
  exact c
theorem below_of_grown {w w' : World} {B h : Nat} (g : w.grownBy w' (some h)) (hB : B ≤ w.heap.size) (hh : B ≤ h) : Below B w w' :=
  ⟨g.os, g.tape, g.output, g.size, fun k hk => g.block k (by omega) (by intro e; cases e; omega)⟩
set_option maxHeartbeats 8000000 in
theorem or_any (w : World) (U : Option Addr) (c : Nat) (ps : List (Option Addr)) (nums : Option Addr → List Int) (hr : Pps w U ps) (few : ps.length ≤ 1000000) (hb : Bps w ps nums) (hT : Tab w) :
    Calls Tryz.prog 10 #[.slice U ps.length c] w fun e w' => ∃ ys, (∀ x, x ∈ ys ↔ ∃ p ∈ ps, x ∈ nums p) ∧ NewP w ys e w' := by
  have hnew := Lib.hid (b_new w)
  have HR := Lib.hid hr
  have HB := Lib.hid hb
  have HT := Lib.hid hT
  obtain ⟨zz, hzz⟩ : ∃ zz, List.replicate 1024 0 = zz := ⟨_, rfl⟩
  have hz0 : sl zz = [] := by rw [← hzz]; exact sl_zeroB 1024
  rw [hzz] at hnew
  have HZZ := Lib.hid hz0
  clear hr hb hT hzz hz0
  go_enter Tryz.func10, Tryz.ntmps10
  go_wp2_with (go_at_call 35; (with_reducible refine hnew.out.mono ?_); rintro e w1 ⟨p, s, h, rfl, hbm, hb1, hp, hs, hh⟩; have HM1 := Lib.hid hbm; have HB1 := Lib.hid hb1; have HPS := Lib.hid (And.intro hp (And.intro hs hh)); clear hbm hb1 hp hs hh hnew)
  go_loopw [11] (fun vi wr => ∃ (k : Nat) (us : List Nat), k ≤ ps.length ∧ vi = .int .i64 (k : Int) ∧ Hid (Bm wr p s h us) ∧ Hid (∀ x, x ∈ sl us ↔ ∃ o ∈ ps.take k, x ∈ nums o) ∧ Hid (Below w.heap.size w wr)) (fun vi _ => ps.length - (intOf vi).toNat)
  case atStart => exact ⟨0, zz, Nat.zero_le _, rfl, HM1, Lib.hid (by rw [HZZ.out]; simp), HB1⟩
  case round =>
    obtain ⟨k, us, hk, rfl, HM, HV, HW⟩ := hrel
    by_cases hlt : k < ps.length
    · have hT2 : decide (k < ps.length) = true := decide_eq_true hlt
      have hT3 : decide ((k : Int) < (ps.length : Int)) = true := decide_eq_true (by omega)
      obtain ⟨b, off, rfl, hbk, hck⟩ := (HR.out.below HW.out).at hlt
      have hmk := List.getElem_mem hlt
      have HTK : Hid (ps.take (k + 1) = ps.take k ++ [ps[k]]) := Lib.hid (List.take_succ_eq_append_getElem hlt)
      obtain ⟨q, hq⟩ : ∃ q, ps[k] = q := ⟨_, rfl⟩
      rw [hq] at hck hmk HTK
      have HLI := Lib.hid (bp_List ((HB.out q hmk).next HW.out) (HT.out.below HW.out HT.out.pos))
      have HUP := Lib.hid (HB.out q hmk).up
      have hfew := (HB.out q hmk).up.few
      clear hq hmk
      obtain ⟨zs, hzs⟩ : ∃ zs, nums q = zs := ⟨_, rfl⟩
      rw [hzs] at HLI HUP hfew
      have HZS := Lib.hid hzs
      clear hzs
      go_wp2_with (go_at_call 18; (with_reducible refine HLI.out.mono ?_); rintro e w2 ⟨v2, rfl, ho2, hb2⟩
                   obtain ⟨U2, c2, rfl, hr2, _⟩ := Rh.of_own ho2
                   have HR2 := Lib.hid hr2
                   have HM2 := Lib.hid (HM.out.all_below hb2)
                   have HW2 := Lib.hid (HW.out.trans (hb2.mono HW.out.size))
                   clear ho2 hb2 hr2 HLI hck)
      go_loopw [18] (fun vj w3 => ∃ (j : Nat) (us3 : List Nat), j ≤ zs.length ∧ vj = .int .i64 (j : Int) ∧ Hid (Bm w3 p s h us3) ∧ Hid (∀ x, x ∈ sl us3 ↔ (∃ o ∈ ps.take k, x ∈ nums o) ∨ x ∈ zs.take j) ∧ Hid (Rh w3 w2.heap.size U2 zs) ∧ Hid (w2.heap.size ≤ w3.heap.size) ∧ Hid (Below w.heap.size w w3)) (fun vj _ => zs.length - (intOf vj).toNat)
      case atStart => exact ⟨0, us, Nat.zero_le _, rfl, HM2, Lib.hid (fun x => by rw [HV.out x]; simp), HR2, Lib.hid (Nat.le_refl _), HW2⟩
      case round =>
        obtain ⟨j, us3, hj, rfl, HM3, HV3, HR3, HS3, HW3⟩ := hrel
        by_cases hlj : j < zs.length
        · have hJ2 : decide (j < zs.length) = true := decide_eq_true hlj
          have hJ3 : decide ((j : Int) < (zs.length : Int)) = true := decide_eq_true (by omega)
          obtain ⟨b2, off2, rfl, hb2k, hc2k⟩ := HR3.out.at hlj
          have hzr := HUP.out.range zs[j] (List.getElem_mem hlj)
          have HTJ : Hid (zs.take (j + 1) = zs.take j ++ [zs[j]]) := Lib.hid (List.take_succ_eq_append_getElem hlj)
          obtain ⟨v, hv⟩ : ∃ v : Nat, zs[j] = (v : Int) := ⟨zs[j].toNat, by omega⟩
          rw [hv] at hc2k hzr HTJ
          have HAD := Lib.hid (b_add HM3.out v (by omega))
          clear hv
          go_wp2_with (go_at_call 36; (with_reducible refine HAD.out.mono ?_); rintro e w4 ⟨n4, rfl, us4, hc4, hm4, hg4⟩
                       have HC4 := Lib.hid hc4
                       have HM4 := Lib.hid hm4
                       have HG4 := Lib.hid hg4
                       clear hc4 hm4 hg4 HAD hc2k)
          go_roundw
          case rel =>
            refine ⟨j + 1, us4, by omega, by go_num, HM4, Lib.hid (fun x => ?_), Lib.hid (HR3.out.keepBm HM3.out HG4.out HS3.out), Lib.hid (Nat.le_trans HS3.out HG4.out.size), Lib.hid (HW3.out.trans (below_of_grown HG4.out HW3.out.size HPS.out.2.2))⟩
            rw [HC4.out.2.1 x, HTJ.out, List.mem_append, List.mem_singleton]
            by_cases e : x = (v : Int)
            · rw [if_pos (by omega)]
              simp [e]
            · rw [if_neg (by omega), HV3.out x]
              simp [e]
          case measure => simp [intOf]; omega
        · have hJ2 : decide (j < zs.length) = false := decide_eq_false hlj
          have hJ3 : decide ((j : Int) < (zs.length : Int)) = false := decide_eq_false (by omega)
          have hall : Hid (zs.take j = zs) := Lib.hid (List.take_of_length_le (by omega))
          go_wp2
          go_roundw
          case rel =>
            refine ⟨k + 1, us3, by omega, by go_num, HM3, Lib.hid (fun x => ?_), HW3⟩
            rw [HV3.out x, hall.out, HTK.out]
            constructor
            · rintro (⟨o, ho, hx⟩ | hx)
              · exact ⟨o, List.mem_append_left _ ho, hx⟩
              · exact ⟨q, by simp, by rw [HZS.out]; exact hx⟩
            · rintro ⟨o, ho, hx⟩
              rcases List.mem_append.1 ho with h5 | h5
              · exact .inl ⟨o, h5, hx⟩
              · rw [List.mem_singleton.1 h5, HZS.out] at hx
                exact .inr hx
          case measure => simp [intOf]; omega
    · have hT2 : decide (k < ps.length) = false := decide_eq_false hlt
      have hT3 : decide ((k : Int) < (ps.length : Int)) = false := decide_eq_false (by omega)
      have hall : Hid (ps.take k = ps) := Lib.hid (List.take_of_length_le (by omega))
      have HBA : Hid (Below w.heap.size w (wr.alloc (.cells #[.pointer (some ⟨p, 0, none⟩)] 59))) := Lib.hid (HW.out.alloc HW.out.size _)
      have HCO := Lib.hid (asB_coll wr p s h us HM.out (HT.out.below HW.out HT.out.pos))
      go_wp2_with (first
        | (go_at_call 38; (with_reducible refine (bit_all_any _ _).mono ?_); rintro e w' ⟨rfl, rfl⟩)
        | (go_at_call 37; (with_reducible refine HCO.out.mono ?_); rintro e w5 ⟨v5, rfl, ho5, hb5⟩
           obtain ⟨U5, c5, rfl, hr5, _⟩ := Rh.of_own ho5
           have hb5w : Below w.heap.size w w5 := HBA.out.trans (hb5.mono HBA.out.size)
           have HB5 := Lib.hid hb5w
           have HO := Lib.hid (box_Of w5 w5.heap.size _ c5 U5 (sl us) rfl hr5 (Nat.le_refl _) (by have := up_few (sl_up us) (fun y hy => HM.out.range hy); omega) (fun y hy => HM.out.range hy) (HT.out.below hb5w HT.out.pos))
           clear ho5 hb5 hb5w hr5 HCO)
        | (go_at_call 26; (with_reducible refine HO.out.mono ?_); rintro e w6 ⟨zs6, hz, q6, r6, rfl, h1, h2, h3, h4⟩
           have HQ := Lib.hid (And.intro hz (And.intro h1 (And.intro h2 (And.intro h3 h4))))
           clear hz h1 h2 h3 h4 HO))
      go_ret
      obtain ⟨hz, h1, h2, h3, h4⟩ := HQ.out
      have z := HB5.out.size
      exact ⟨zs6, fun x => by rw [hz x, HV.out x, hall.out], q6, r6, rfl, h1, by omega, fun e => by have := h3 e; omega, HB5.out.trans (h4.mono z)⟩
end Go.Proofs.YtkehehfphccpbaaGreatDoor
end
