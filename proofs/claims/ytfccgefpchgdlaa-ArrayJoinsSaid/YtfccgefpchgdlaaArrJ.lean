
/- array.joinAll: many lists are joined by halves; the text walked. -/
import Derived.Test.YtfccgefpchgdlaaArrV
import Derived.Test.YtfccgefpchgdlaaArr9
import Derived.Test.YtfccgefpchgdlaaArr11
namespace Go.Proofs.Ytfccgefpchgdlaa
open Go.RowKit Go.Shelf
def lists (L : List Part) : List (List Int) := L.map (·.2.2)
section
variable (g off n c h : Nat) (H : Int) (hH : H = (h : Int)) (hh : h < n) (hc : n ≤ c)
include hH hh hc
theorem cutL_l : (∀ w, (Instr.sliceAt 46 (.slice (some ⟨g, off, none⟩) n c) (some (.int .i64 H)) none none).run Try.prog w = .ok (.slice (some ⟨g, off + h, none⟩) (n - h) (c - h)) w) ∧
    (∀ w, (Instr.slice 46 (.slice (some ⟨g, off, none⟩) n c) (some (.int .i64 H)) none none).run Try.prog w = .ok (.slice (some ⟨g, off + h, none⟩) (n - h) (c - h)) w) := by
  subst hH
  have hu : Try.prog.underlying 46 = some (.slice (Try.prog.elem 46)) := by kernel_rfl
  have hz : ∀ w, (Go.sizeOf (Try.prog.elem 46)).run Try.prog w = .ok 1 w := fun w => Try.sizeOf22 w
  have h2 : ∀ w, (Instr.slice 46 (.slice (some ⟨g, off, none⟩) n c) (some (.int .i64 (h : Int))) none none).run Try.prog w = .ok (.slice (some ⟨g, off + h, none⟩) (n - h) (c - h)) w := fun w => by
    have hr := run_slice_l (P := Try.prog) (w := w) (t := 46) (a := some ⟨g, off, none⟩) (len := n) (cap := c) (ht := hu) (kl := .i64) (l := (h : Int)) (h0 := by omega) (h1 := by omega)
    rw [hr, hz]
    have hne : ¬ c = h := by omega
    have ha : (⟨g, off, none⟩ : Addr).add h = ⟨g, off + h, none⟩ := by
      unfold Addr.add
      by_cases h0 : h = 0 <;> simp [h0]
    simp [Result.andThen, sliced, hne, ha]
  exact ⟨fun w => (run_sliceAt_slice (w := w) (h := hu) ..).trans (h2 w), h2⟩
theorem cutL_h : (∀ w, (Instr.sliceAt 46 (.slice (some ⟨g, off, none⟩) n c) none (some (.int .i64 H)) none).run Try.prog w = .ok (.slice (some ⟨g, off, none⟩) h c) w) ∧
    (∀ w, (Instr.slice 46 (.slice (some ⟨g, off, none⟩) n c) none (some (.int .i64 H)) none).run Try.prog w = .ok (.slice (some ⟨g, off, none⟩) h c) w) := by
  subst hH
  have hu : Try.prog.underlying 46 = some (.slice (Try.prog.elem 46)) := by kernel_rfl
  have hz : ∀ w, (Go.sizeOf (Try.prog.elem 46)).run Try.prog w = .ok 1 w := fun w => Try.sizeOf22 w
  have h2 : ∀ w, (Instr.slice 46 (.slice (some ⟨g, off, none⟩) n c) none (some (.int .i64 (h : Int))) none).run Try.prog w = .ok (.slice (some ⟨g, off, none⟩) h c) w := fun w => by
    have hr := run_slice_h (P := Try.prog) (w := w) (t := 46) (a := some ⟨g, off, none⟩) (len := n) (cap := c) (ht := hu) (kh := .i64) (h := (h : Int)) (h0 := by omega) (h2 := by omega)
    rw [hr, hz]
    simp [Result.andThen, sliced, Addr.add]
  exact ⟨fun w => (run_sliceAt_slice (w := w) (h := hu) ..).trans (h2 w), h2⟩
end
theorem Parts.front {w : World} {B g off h : Nat} {L : List Part} (p : Parts w B g off L) : Parts w B g off (L.take h) := fun k hk => by
  have h1 : k < L.length := by rw [List.length_take] at hk; omega
  have h2 := p k h1
  simpa using h2
theorem Parts.rest {w : World} {B g off h : Nat} {L : List Part} (p : Parts w B g off L) : Parts w B g (off + h) (L.drop h) := fun k hk => by
  have h1 : h + k < L.length := by rw [List.length_drop] at hk; omega
  have h2 := p (h + k) h1
  rw [show off + h + k = off + (h + k) by omega]
  simpa using h2
theorem Parts.below {w w' : World} {B D g off : Nat} {L : List Part} (p : Parts w B g off L) (hb : Below D w w') (hB : B ≤ D) (hg : g < D) : Parts w' B g off L := fun k hk =>
  ⟨(hb.cell (p := ⟨g, off + k, none⟩) hg).trans (p k hk).1, (p k hk).2.below hb hB⟩
/-- What a join of two lists answers. -/
def JoinP (op : Prop → Prop → Prop) (F : Value) : Prop := ∀ (w : World) (B n1 c1 n2 c2 : Nat) (A1 A2 : Option Addr) (xs ys : List Int), B ≤ w.heap.size → n1 = xs.length → n2 = ys.length → n1 ≤ c1 → n2 ≤ c2 → Rh w B A1 xs → Rh w B A2 ys →
  xs.Pairwise (· < ·) → ys.Pairwise (· < ·) → n1 ≤ 1000000 → n2 ≤ 1000000 →
  Calls Try.prog 43 #[.slice A1 n1 c1, .slice A2 n2 c2, F] w fun e w' => ∃ (v : Value) (zs : List Int), e = .returned v ∧ zs.Pairwise (· < ·) ∧ (∀ x, x ∈ zs ↔ op (x ∈ xs) (x ∈ ys)) ∧ zs.length ≤ n1 + n2 ∧
      w'.ownsRow w.heap.size 30 1 v zs.length (hv zs) ∧ Below w.heap.size w w'
/-- What all lists together are. -/
structure All (op : Prop → Prop → Prop) (S : List (List Int) → Int → Prop) : Prop where
  one : ∀ p x, S [p] x ↔ x ∈ p
  app : ∀ L1 L2 x, L1 ≠ [] → L2 ≠ [] → (S (L1 ++ L2) x ↔ op (S L1 x) (S L2 x))
def AllP (S : List (List Int) → Int → Prop) (w : World) (L : List Part) (e : Ending) (w' : World) : Prop := ∃ (v : Value) (zs : List Int), e = .returned v ∧ zs.Pairwise (· < ·) ∧ (L ≠ [] → ∀ x, x ∈ zs ↔ S (lists L) x) ∧ (L = [] → zs = []) ∧ zs.length ≤ (cat L).length ∧
      w'.ownsRow w.heap.size 30 1 v zs.length (hv zs) ∧ Below w.heap.size w w'
set_option maxHeartbeats 8000000 in
set_option maxRecDepth 100000 in
theorem join_single (w : World) (B g off c c1 : Nat) (A1 : Option Addr) (xs : List Int) (F : Value) (hcell : w.cell? ⟨g, off, none⟩ = some (.slice A1 xs.length c1)) (hr : Rh w B A1 xs) (hB : B ≤ w.heap.size) (hl : xs.length ≤ 1000000) :
    Calls Try.prog 40 #[.slice (some ⟨g, off, none⟩) 1 c, F] w fun e w' => ∃ v, e = .returned v ∧ w'.ownsRow w.heap.size 30 1 v xs.length (hv xs) ∧ Below w.heap.size w w' := by
  have HC := Lib.hid (copy_any w B xs.length c1 A1 xs rfl hr hB hl)
  clear hr hB hl
  generalize xs.length = n at *
  go_enter Try.func40, Try.ntmps40
  go_wp2_with (go_at_call 35; (with_reducible refine HC.out.mono ?_); rintro e w2 ⟨v, rfl, h1, h2⟩; replace h1 := Lib.hid h1; replace h2 := Lib.hid h2)
  go_ret
  exact ⟨v, rfl, h1.out, h2.out⟩
set_option maxHeartbeats 8000000 in
set_option maxRecDepth 100000 in
theorem join_all (op : Prop → Prop → Prop) (S : List (List Int) → Int → Prop) (f : FuncId) (hS : All op S) (hJ : JoinP op (.func (.func f) #[] #[])) (m : Nat) : ∀ (n : Nat) (L : List Part) (w : World) (B g off c : Nat), n ≤ m → n = L.length → Parts w B g off L → B ≤ w.heap.size → g < w.heap.size → (∀ p ∈ lists L, p.Pairwise (· < ·)) → (cat L).length ≤ 1000000 → n ≤ c → n ≤ 1000 →
    Calls Try.prog 40 #[.slice (some ⟨g, off, none⟩) n c, .func (.func f) #[] #[]] w (AllP S w L) := by
  induction m with
  | zero =>
    intro n L w B g off c hm hn hp hB hg hs hl hc hk
    obtain rfl : n = 0 := by omega
    have hL : L = [] := List.eq_nil_of_length_eq_zero hn.symm
    subst hL
    clear hp hs hl hn
    go_enter Try.func40, Try.ntmps40
    go_wp2
    go_ret
    exact ⟨_, [], rfl, List.Pairwise.nil, fun h => absurd rfl h, fun _ => rfl, Nat.zero_le _, ⟨rfl, .inl ⟨rfl, rfl⟩⟩, Below.refl _ _⟩
  | succ m ih =>
    intro n L w B g off c hm hn hp hB hg hs hl hc hk
    by_cases h0 : n = 0
    · subst h0
      have hL : L = [] := List.eq_nil_of_length_eq_zero hn.symm
      subst hL
      clear hp hs hl hn
      go_enter Try.func40, Try.ntmps40
      go_wp2
      go_ret
      exact ⟨_, [], rfl, List.Pairwise.nil, fun h => absurd rfl h, fun _ => rfl, Nat.zero_le _, ⟨rfl, .inl ⟨rfl, rfl⟩⟩, Below.refl _ _⟩
    · by_cases h1 : n = 1
      · subst h1
        match L, hn with
        | [(A1, c1, xs)], _ =>
          have h2 := hp 0 (by simp)
          have hcell : w.cell? ⟨g, off, none⟩ = some (.slice A1 xs.length c1) := h2.1
          have hr := h2.2
          have hS1 := Lib.hid (hS.one xs)
          have hs1 := Lib.hid (hs xs (by simp [lists]))
          have hcat : cat [(A1, c1, xs)] = xs := by simp [cat]
          rw [hcat] at hl
          refine (join_single w B g off c c1 A1 xs _ hcell hr hB hl).mono ?_
          rintro e w2 ⟨v, rfl, h1, h2⟩
          exact ⟨v, xs, rfl, hs1.out, fun _ x => (hS1.out x).symm, fun h => absurd h (by simp), by rw [hcat]; exact Nat.le_refl _, h1, h2⟩
      · obtain ⟨k, hk2⟩ : ∃ k, k = n / 2 := ⟨_, rfl⟩
        have hk1 : 1 ≤ k := by omega
        have hkn : k < n := by omega
        have hkm : k ≤ m := by omega
        have hkm2 : n - k ≤ m := by omega
        obtain ⟨g1, g2⟩ := cutL_h g off n c k ((n : Int) / 2) (by omega) hkn hc
        obtain ⟨g3, g4⟩ := cutL_l g off n c k ((n : Int) / 2) (by omega) hkn hc
        have z0 : 0 ≤ (n : Int) / 2 := by omega
        have z1 : (n : Int) / 2 ≤ (n : Int) := by omega
        have z2 : (n : Int) / 2 ≤ (c : Int) := by omega
        have L1n : L.take k ≠ [] := fun h => by have h3 : (L.take k).length = k := by { rw [List.length_take]; omega }; rw [h, List.length_nil] at h3; omega
        have L2n : L.drop k ≠ [] := fun h => by have h3 : (L.drop k).length = n - k := by { rw [List.length_drop]; omega }; rw [h, List.length_nil] at h3; omega
        have hcat : (cat (L.take k)).length + (cat (L.drop k)).length = (cat L).length := by
          rw [← List.length_append]
          unfold cat
          rw [← List.flatMap_append, List.take_append_drop]
        have HAPP : Hid (∀ x, S (lists L) x ↔ op (S (lists (L.take k)) x) (S (lists (L.drop k)) x)) := Lib.hid (fun x => by
          rw [← hS.app (lists (L.take k)) (lists (L.drop k)) x (by intro h; exact L1n (List.map_eq_nil_iff.1 h)) (by intro h; exact L2n (List.map_eq_nil_iff.1 h))]
          unfold lists
          rw [← List.map_append, List.take_append_drop])
        have LA : Hid (∀ W, Below w.heap.size w W → Calls Try.prog 40 #[.slice (some ⟨g, off, none⟩) k c, .func (.func f) #[] #[]] W (AllP S W (L.take k))) := Lib.hid (fun W hb =>
          ih k (L.take k) W B g off c hkm (by rw [List.length_take]; omega) (hp.front.below hb hB hg) (Nat.le_trans hB hb.size) (by have := hb.size; omega) (fun p h => hs p (by unfold lists at h ⊢; rw [List.map_take] at h; exact List.mem_of_mem_take h)) (by omega) (by omega) (by omega))
        have LB : Hid (∀ W, Below w.heap.size w W → Calls Try.prog 40 #[.slice (some ⟨g, off + k, none⟩) (n - k) (c - k), .func (.func f) #[] #[]] W (AllP S W (L.drop k))) := Lib.hid (fun W hb =>
          ih (n - k) (L.drop k) W B g (off + k) (c - k) hkm2 (by rw [List.length_drop]; omega) (hp.rest.below hb hB hg) (Nat.le_trans hB hb.size) (by have := hb.size; omega) (fun p h => hs p (by unfold lists at h ⊢; rw [List.map_drop] at h; exact List.mem_of_mem_drop h)) (by omega) (by omega) (by omega))
        have HJJ := Lib.hid hJ
        have HCT := Lib.hid hcat
        have HL1 := Lib.hid L1n
        have HL2 := Lib.hid L2n
        have HLL := Lib.hid hl
        have HWD : Hid (Below w.heap.size w w.drew) := Lib.hid (below_drewN (Below.refl _ _) 1)
        clear h0 h1
        have e0 : ((n : Int) == 0) = false := by rw [beq_eq_false_iff_ne]; omega
        have e1 : ((n : Int) == 1) = false := by rw [beq_eq_false_iff_ne]; omega
        have HP := Lib.hid hp
        have HN := Lib.hid hn
        have HK := Lib.hid hk2
        clear hp hn hk2 ih hs hS hJ hcat L1n L2n hl hB
        go_enter Try.func40, Try.ntmps40
        go_wp2
        go_region_held3 (fun _ => True) (trivial) (first
          | (go_at_call 40; first
               | ((with_reducible refine (LA.out _ HWD.out).mono ?_); rintro e w2 ⟨v2, zs2, rfl, p1, p2, _, p4, p5, p6⟩
                  obtain ⟨A2, c2, hv2, hr2, hc2⟩ := own_reads p5
                  subst hv2
                  have Q1 := Lib.hid p1
                  have Q2 := Lib.hid (p2 HL1.out)
                  have Q4 := Lib.hid p4
                  have QC := Lib.hid hc2
                  have QR := Lib.hid hr2
                  have QB : Hid (Below w.heap.size w w2) := Lib.hid (HWD.out.trans p6)
                  clear p1 p2 p4 p5 p6 hr2 hc2)
               | ((with_reducible refine (LB.out _ QB.out).mono ?_); rintro e w3 ⟨v3, zs3, rfl, p1, p2, _, p4, p5, p6⟩
                  obtain ⟨A3, c3, hv3, hr3, hc3⟩ := own_reads p5
                  subst hv3
                  have T1 := Lib.hid p1
                  have T2 := Lib.hid (p2 HL2.out)
                  have T4 := Lib.hid p4
                  have TC := Lib.hid hc3
                  have TR := Lib.hid hr3
                  have TB : Hid (Below w.heap.size w w3) := Lib.hid (QB.out.trans (p6.mono QB.out.size))
                  have QR3 := Lib.hid ((QR.out.below p6 (Nat.le_refl _)).more p6.size)
                  have HJN := Lib.hid (HJJ.out w3 w3.heap.size zs2.length c2 zs3.length c3 A2 A3 zs2 zs3 (Nat.le_refl _) rfl rfl QC.out TC.out QR3.out TR.out Q1.out T1.out (by have := Q4.out; have := HCT.out; have := HLL.out; omega) (by have := T4.out; have := HCT.out; have := HLL.out; omega))
                  clear p1 p2 p4 p5 p6 hr3 hc3))
          | (go_at_call 43; (with_reducible refine HJN.out.mono ?_); rintro e w4 ⟨v4, zs4, rfl, p1, p2, p4, p5, p6⟩; replace p1 := Lib.hid p1; replace p2 := Lib.hid p2; replace p4 := Lib.hid p4; replace p5 := Lib.hid p5; replace p6 := Lib.hid p6))
        go_wp2
        go_ret
        refine ⟨v4, zs4, rfl, p1.out, fun _ x => ?_, fun h => ?_, ?_, own_low p5.out TB.out.size, TB.out.trans (p6.out.mono TB.out.size)⟩
        · rw [p2.out x, HAPP.out x, Q2.out x, T2.out x]
        · subst h; exact absurd List.drop_nil HL2.out
        · have := p4.out; have := Q4.out; have := T4.out; have := HCT.out; omega
theorem wt_or {xs ys : List Int} {x : Int} : M.Wt true true true xs ys x ↔ x ∈ xs ∨ x ∈ ys := by
  unfold M.Wt
  by_cases h1 : x ∈ xs <;> by_cases h2 : x ∈ ys <;> simp [h1, h2]
theorem wt_and {xs ys : List Int} {x : Int} : M.Wt false false true xs ys x ↔ x ∈ xs ∧ x ∈ ys := by
  unfold M.Wt
  by_cases h1 : x ∈ xs <;> by_cases h2 : x ∈ ys <;> simp [h1, h2]
theorem jp_or : JoinP Or (.func (.func 41) #[] #[]) := fun w B n1 c1 n2 c2 A1 A2 xs ys hB h1 h2 hc1 hc2 hr1 hr2 hs1 hs2 f1 f2 =>
  (join_or w B n1 c1 n2 c2 A1 A2 xs ys hB h1 h2 hc1 hc2 hr1 hr2 hs1 hs2 f1 f2 fn_a_or0 fn_a_or1 fn_a_or2).mono fun _ _ ⟨v, zs, e1, e2, e3, e4⟩ => ⟨v, zs, e1, e2, fun x => (e3 x).trans wt_or, e4⟩
theorem jp_and : JoinP And (.func (.func 42) #[] #[]) := fun w B n1 c1 n2 c2 A1 A2 xs ys hB h1 h2 hc1 hc2 hr1 hr2 hs1 hs2 f1 f2 =>
  (join_and w B n1 c1 n2 c2 A1 A2 xs ys hB h1 h2 hc1 hc2 hr1 hr2 hs1 hs2 f1 f2 fn_a_and0 fn_a_and1 fn_a_and2).mono fun _ _ ⟨v, zs, e1, e2, e3, e4⟩ => ⟨v, zs, e1, e2, fun x => (e3 x).trans wt_and, e4⟩
def SOr (L : List (List Int)) (x : Int) : Prop := ∃ p, p ∈ L ∧ x ∈ p
def SAnd (L : List (List Int)) (x : Int) : Prop := ∀ p, p ∈ L → x ∈ p
theorem all_or : All Or SOr := ⟨fun p x => ⟨fun ⟨q, h, h2⟩ => by rw [List.mem_singleton] at h; exact h ▸ h2, fun h => ⟨p, List.mem_singleton.2 rfl, h⟩⟩, fun L1 L2 x _ _ =>
  ⟨fun ⟨q, h, h2⟩ => (List.mem_append.1 h).elim (fun h => .inl ⟨q, h, h2⟩) (fun h => .inr ⟨q, h, h2⟩), fun h => h.elim (fun ⟨q, h, h2⟩ => ⟨q, List.mem_append_left _ h, h2⟩) (fun ⟨q, h, h2⟩ => ⟨q, List.mem_append_right _ h, h2⟩)⟩⟩
theorem all_and : All And SAnd := ⟨fun p x => ⟨fun h => h p (List.mem_singleton.2 rfl), fun h q hq => by rw [List.mem_singleton] at hq; exact hq ▸ h⟩, fun L1 L2 x _ _ =>
  ⟨fun h => ⟨fun q hq => h q (List.mem_append_left _ hq), fun q hq => h q (List.mem_append_right _ hq)⟩, fun ⟨h1, h2⟩ q hq => (List.mem_append.1 hq).elim (h1 q) (h2 q)⟩⟩
section
variable (n : Nat) (L : List Part) (w : World) (B g off c : Nat) (hn : n = L.length) (hp : Parts w B g off L) (hB : B ≤ w.heap.size) (hg : g < w.heap.size) (hs : ∀ p ∈ lists L, p.Pairwise (· < ·)) (hl : (cat L).length ≤ 1000000) (hc : n ≤ c) (hk : n ≤ 1000)
include hn hp hB hg hs hl hc hk
theorem a_or : Calls Try.prog 31 #[.slice (some ⟨g, off, none⟩) n c] w (AllP SOr w L) := by
  have H := Lib.hid (join_all Or SOr 41 all_or jp_or n n L w B g off c (Nat.le_refl _) hn hp hB hg hs hl hc hk)
  clear hn hp hB hg hs hl hc hk
  go_enter Try.func31, Try.ntmps31
  go_wp2_with (go_at_call 40; (with_reducible refine H.out.mono ?_); rintro e w2 ⟨v, zs, rfl, h⟩; replace h := Lib.hid h)
  go_ret
  exact ⟨v, zs, rfl, h.out⟩
theorem a_and : Calls Try.prog 32 #[.slice (some ⟨g, off, none⟩) n c] w (AllP SAnd w L) := by
  have H := Lib.hid (join_all And SAnd 42 all_and jp_and n n L w B g off c (Nat.le_refl _) hn hp hB hg hs hl hc hk)
  clear hn hp hB hg hs hl hc hk
  go_enter Try.func32, Try.ntmps32
  go_wp2_with (go_at_call 40; (with_reducible refine H.out.mono ?_); rintro e w2 ⟨v, zs, rfl, h⟩; replace h := Lib.hid h)
  go_ret
  exact ⟨v, zs, rfl, h.out⟩
end
end Go.Proofs.Ytfccgefpchgdlaa
