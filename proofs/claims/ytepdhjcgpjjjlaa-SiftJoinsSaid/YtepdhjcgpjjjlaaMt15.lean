/- A row of sequences that is made by append: what stays; the text walked. The law SiftJoins: rows of lists and of sequences, laid; plain facts of what so many have. A row of sequences as what Or and And ask; told by most. Or and And over a row of sequences that was made by append. The law SiftJoins; the text walked. -/
import Derived.Test.YtepdhjcgpjjjlaaMt14
section
namespace Go.Proofs.Ytepdhjcgpjjjlaa
set_option maxRecDepth 20000
open Go.RowKit Go.Shelf
theorem seq_infoV : (Try.prog.info? 29).map (fun i => (i.zero, i.size, i.bytes)) = some (some Value.nilFunc, 1, 8) := by kernel_rfl
theorem cutr_h (A : Option Addr) (n c l : Nat) (L : Int) (hL : L = (l : Int)) (hl : l ≤ n) (hc : n ≤ c) : (∀ w, (Instr.sliceAt 26 (.slice A n c) none (some (.int .u8 L)) none).run Try.prog w = .ok (.slice A l c) w) ∧
    (∀ w, (Instr.slice 26 (.slice A n c) none (some (.int .u8 L)) none).run Try.prog w = .ok (.slice A l c) w) := by
  subst hL
  have hu : Try.prog.underlying 26 = some (.slice (Try.prog.elem 26)) := by kernel_rfl
  have hz : ∀ w, (Go.sizeOf (Try.prog.elem 26)).run Try.prog w = .ok 1 w := fun w => Try.sizeOf22 w
  have h2 : ∀ w, (Instr.slice 26 (.slice A n c) none (some (.int .u8 (l : Int))) none).run Try.prog w = .ok (.slice A l c) w := fun w => by
    have h := run_slice_h (P := Try.prog) (w := w) (t := 26) (a := A) (len := n) (cap := c) (ht := hu) (kh := .u8) (h := (l : Int)) (h0 := by omega) (h2 := by omega)
    rw [h, hz]
    simp [Result.andThen]
    cases A <;> simp [sliced, Addr.add]
  exact ⟨fun w => (run_sliceAt_slice (w := w) (h := hu) ..).trans (h2 w), h2⟩
/-- A row of its own that holds these function values; none of them reads the row. -/
structure FR (w W : World) (v : Value) (l : List (Value × List Nat)) : Prop where
  low : Below w.heap.size w W
  own : W.ownsRow w.heap.size 29 1 v l.length (l.map (·.1))
  seq : ∀ p ∈ l, ∃ N, Vq W p.1 p.2 N ∧ ∀ j, v.ownBlock = some j → ¬ N j
theorem FR.start (w : World) : FR w w (.slice none 0 0) [] := ⟨Below.refl _ _, World.ownsRow_nil _ _ _ _, fun p hp => by cases hp⟩
theorem FR.below {w W W' : World} {v : Value} {l : List (Value × List Nat)} (h : FR w W v l) (hb : Below W.heap.size W W') : FR w W' v l :=
  ⟨h.low.trans (hb.mono h.low.size), own_belV h.own hb, fun p hp => by
    obtain ⟨N, h1, h2⟩ := h.seq p hp
    exact ⟨N, h1.below hb, h2⟩⟩
/-- One more: f, whose blocks are new; the row may have been written in place. -/
theorem FR.snoc {w W W2 W3 : World} {v v' f : Value} {l : List (Value × List Nat)} {xs : List Nat} {N : Nat → Prop} {t : TypeId} (h : FR w W v l) (hb : Below W.heap.size W W2) (hq : Vq W2 f xs N) (hN : ∀ j, N j → W.heap.size ≤ j)
    (hown : W3.ownsRow w.heap.size 29 1 v' (l.length + 1) (l.map (·.1) ++ [f])) (hg : (W2.alloc (.cells #[f] t)).grownBy W3 v.ownBlock) (hblk : v'.ownBlock = v.ownBlock ∨ v'.ownBlock = some (W2.heap.size + 1)) : FR w W3 v' (l ++ [(f, xs)]) := by
  have h2 := h.below hb
  have hba : Below W2.heap.size W2 (W2.alloc (.cells #[f] t)) := (Below.refl _ _).alloc (Nat.le_refl _) _
  have hbut : ButS (W2.alloc (.cells #[f] t)) W3 (fun j => v.ownBlock = some j) := ButS.of_grown hg (fun j e => e)
  have hlow : Below w.heap.size w W3 := (h2.low.trans (hba.mono h2.low.size)).grown hg (Nat.le_trans h2.low.size hba.size) (fun g hg' => (h2.own.lt g hg').1)
  refine ⟨hlow, by rw [List.length_append, List.map_append]; exact hown, fun p hp => ?_⟩
  have hblk' : ∀ j, v'.ownBlock = some j → v.ownBlock = some j ∨ W2.heap.size < j := fun j hj => by
    rcases hblk with e | e
    · left; rw [← e]; exact hj
    · right
      rw [hj] at e
      injection e with e
      omega
  rcases List.mem_append.1 hp with hp | hp
  · obtain ⟨M, h3, h4⟩ := h2.seq p hp
    refine ⟨M, (h3.below hba).but hbut (fun j hj hv => h4 j hv hj), fun j hj hM => ?_⟩
    rcases hblk' j hj with h5 | h5
    · exact h4 j h5 hM
    · have := h3.lt hM
      omega
  · rcases List.mem_singleton.1 hp with rfl
    have hv : ∀ j, v.ownBlock = some j → ¬ N j := fun j hj hn => by
      have h5 := hN j hn
      have h6 := (own_ltG h.own hj).1
      omega
    refine ⟨N, (hq.below hba).but hbut (fun j hj hv' => hv j hv' hj), fun j hj hn => ?_⟩
    rcases hblk' j hj with h5 | h5
    · exact hv j h5 hn
    · have := hq.lt hn
      omega
end Go.Proofs.Ytepdhjcgpjjjlaa
end
section
namespace Go.Proofs.Ytepdhjcgpjjjlaa
set_option maxRecDepth 20000
open Go.RowKit Go.Shelf
theorem lr_lit (W : World) (l : List (Value × List Nat)) (h : ∀ p ∈ l, KX W p.1 p.2 ∧ K.Up p.2 ∧ p.2.length ≤ 1000) (r : Nat) : LR (W.alloc (.cells (l.map (·.1)).toArray 22)) (some ⟨W.heap.size, 0, none⟩) (l.take r) := by
  refine ⟨fun k hk => ⟨W.heap.size, 0, rfl, by simp, ?_⟩, fun p hp => ?_⟩
  · rw [List.length_take] at hk
    rw [List.getElem_take, Nat.zero_add]
    have hk' : k < l.length := by omega
    simp [hk']
  · obtain ⟨h1, h2⟩ := h p (List.mem_of_mem_take hp)
    exact ⟨h1.below ((Below.refl _ W).alloc (Nat.le_refl _) _), h2⟩
namespace S
theorem wt_up (xss : List (List Nat)) (f t : Int) : K.Up (wt xss f t) := List.Pairwise.sublist List.filter_sublist (off_up _)
theorem wt_mem (xss : List (List Nat)) (f t : Int) (z : Nat) : z ∈ wt xss f t ↔ (∃ x ∈ xss, z ∈ x) ∧ f ≤ (cn xss z : Int) ∧ (cn xss z : Int) ≤ t := by
  unfold wt inn
  rw [List.mem_filter, off_mem, List.mem_flatten]
  simp
theorem cn_pos (xss : List (List Nat)) (z : Nat) : 1 ≤ cn xss z ↔ ∃ x ∈ xss, z ∈ x := by
  unfold cn
  rw [Nat.succ_le_iff, List.countP_pos_iff]
  simp
theorem cn_all (xss : List (List Nat)) (z : Nat) : cn xss z = xss.length ↔ ∀ x ∈ xss, z ∈ x := by
  unfold cn
  rw [List.countP_eq_length]
  simp
/-- What one of them has. -/
theorem wt_or (xss : List (List Nat)) (h : xss.length ≤ 9) (z : Nat) : z ∈ wt xss 1 9 ↔ mOr xss z := by
  rw [wt_mem]
  unfold mOr
  have h1 := cn_le xss z
  constructor
  · exact fun h => h.1
  · intro h2
    have h3 := (cn_pos xss z).2 h2
    exact ⟨h2, by omega, by omega⟩
/-- What all of them have. -/
theorem wt_and (xss : List (List Nat)) (h : xss.length ≤ 9) (m : Nat) (hm : xss.length = m) (z : Nat) : z ∈ wt xss (max (m : Int) 1) 9 ↔ mAnd xss z := by
  rw [wt_mem]
  unfold mAnd
  have h1 := cn_le xss z
  have h2 := cn_all xss z
  have h4 := cn_pos xss z
  constructor
  · rintro ⟨⟨x, hx, hz⟩, h5, _⟩
    have hne : xss ≠ [] := by rintro rfl; cases hx
    exact ⟨hne, h2.1 (by omega)⟩
  · rintro ⟨hne, h5⟩
    have h6 := h2.2 h5
    have h7 : 0 < xss.length := List.length_pos_iff.2 hne
    exact ⟨h4.1 (by omega), by omega, by omega⟩
/-- What just one of two has. -/
theorem wt_xor {a b : List Nat} : wt [a, b] 1 1 = x2 a b := by
  refine T.up_extV (wt_up _ _ _) (x2_up _ _) fun z => ?_
  rw [wt_mem, x2_mem]
  unfold cn
  by_cases h1 : z ∈ a <;> by_cases h2 : z ∈ b <;> simp [h1, h2]
end S
end Go.Proofs.Ytepdhjcgpjjjlaa
end
section
namespace Go.Proofs.Ytepdhjcgpjjjlaa
set_option maxRecDepth 20000
open Go.RowKit Go.Shelf
theorem FR.fx {w W : World} {A : Option Addr} {n c : Nat} {l : List (Value × List Nat)} (h : FR w W (.slice A n c) l) : Fx W A (l.map (·.2)) := fun hne => by
  rcases h.own.2 with ⟨_, hn⟩ | ⟨g, cap, cur, e, _, hg, _⟩
  · have : l = [] := List.eq_nil_of_length_eq_zero (by omega)
    subst this
    simp at hne
  · injection e with e1 _ _
    subst e1
    refine ⟨g, 0, rfl, (Array.getElem?_eq_some_iff.1 hg).1, fun k hk => ?_⟩
    rw [List.length_map] at hk
    have hc := h.own.cells (g := g) rfl k l[k].1 (by simp [hk])
    rw [add_off] at hc
    obtain ⟨N, hv, _⟩ := h.seq l[k] (List.getElem_mem _)
    rw [List.getElem_map, Nat.zero_add]
    exact ⟨l[k].1, hc, hv.sx⟩
section
variable {V W : World} {L : List (Value × List Nat)}
theorem bg_toldK (h : Bg V W L) {f : Value} {xs : List Nat} (m1 : (f, xs) ∈ L) {A : Option Addr} {n c : Nat} (hk : KX W (.slice A n c) xs) (k : Int) : Calls Try.prog 11 #[f, .slice A n c, .int .i64 k] W fun e w' => e = .returned (.bool true) ∧ Bg V w' L := by
  have hb : BK W W [(.slice A n c, xs)] := ⟨Below.refl _ _, fun p hp => by rcases List.mem_singleton.1 hp with rfl; exact hk⟩
  obtain ⟨hr, hx, hc⟩ := hb.rw (A := A) (n := n) (c := c) (xs := xs) (by simp)
  rcases Int.lt_or_le k (n : Int) with h1 | h1
  · exact told_few h m1 A c n hx hc hr k h1
  · exact told_all h m1 A c n hx hr k h1
theorem bg_want (h : Bg V W L) {A : Option Addr} {m c : Nat} {vs : List (Value × List Nat)} {xss : List (List Nat)} {zs : List Nat} (hm : vs.length = m) (hr : LR V A vs) (few : m ≤ 10) (f t : Int) (hx : vs.map (·.2) = xss) (hz : S.wt xss f t = zs) :
    Calls Try.prog 13 #[.slice A m c, .int .i64 f, .int .i64 t] W fun e w' => ∃ A' n c', e = .returned (.slice A' n c') ∧ KX w' (.slice A' n c') zs ∧ Bg V w' L := by
  subst hx hz
  refine (want_any W A m c vs hm (hr.below h.low) few f t).mono ?_
  rintro e w' ⟨v, rfl, hk, hb⟩
  obtain ⟨A', c', rfl⟩ := K.own_form hk
  exact ⟨A', _, c', rfl, hk, h.below hb⟩
end
end Go.Proofs.Ytepdhjcgpjjjlaa
end
section
namespace Go.Proofs.Ytepdhjcgpjjjlaa
set_option maxRecDepth 20000
open Go.RowKit Go.Shelf
theorem FR.cap {w W : World} {A : Option Addr} {n c : Nat} {l : List (Value × List Nat)} (h : FR w W (.slice A n c) l) : l.length ≤ c := by
  rcases h.own.2 with ⟨e, hn⟩ | ⟨g, cap, cur, e, _, _, hh, _⟩
  · omega
  · injection e with _ e2 e3
    omega
section
variable {V W : World} {L : List (Value × List Nat)}
theorem bg_orF {w0 : World} (h : Bg V W L) {A : Option Addr} {n c : Nat} {l : List (Value × List Nat)} {xss : List (List Nat)} {zs : List Nat} (hf : FR w0 V (.slice A n c) l) (hx : l.map (·.2) = xss) (hn : xss.length = n) (hn3 : n ≤ 9) (hb : ∀ x ∈ xss, K.Up x ∧ x.length ≤ 1000) (hu : K.Up zs) (hl : zs.length ≤ 100000) (hz : ∀ z, z ∈ zs ↔ S.mOr xss z) :
    Calls Try.prog 12 #[.slice A n c] W (JB V L zs) := by
  have hF := hf.below h.low
  have hc := hF.cap
  have hfx := hF.fx
  rw [hx] at hfx
  have hxl : xss.length = l.length := by rw [← hx, List.length_map]
  have H := or_any W A c xss zs 1000 (by omega) (by omega) hb (by omega) hfx hu hz
  rw [hn] at H
  exact H.mono fun e w' hj => JB.of h (Below.refl _ _) hu hl hj
theorem bg_andF {w0 : World} (h : Bg V W L) {A : Option Addr} {n c : Nat} {l : List (Value × List Nat)} {xss : List (List Nat)} {zs : List Nat} (hf : FR w0 V (.slice A n c) l) (hx : l.map (·.2) = xss) (hn : xss.length = n) (hn3 : n ≤ 9) (hb : ∀ x ∈ xss, K.Up x ∧ x.length ≤ 1000) (hu : K.Up zs) (hl : zs.length ≤ 100000) (hz : ∀ z, z ∈ zs ↔ S.mAnd xss z) :
    Calls Try.prog 14 #[.slice A n c] W (JB V L zs) := by
  have hF := hf.below h.low
  have hc := hF.cap
  have hfx := hF.fx
  rw [hx] at hfx
  have hxl : xss.length = l.length := by rw [← hx, List.length_map]
  have H := and_any W A c xss zs 1000 (by omega) (by omega) hb (by omega) hfx hu hz
  rw [hn] at H
  exact H.mono fun e w' hj => JB.of h (Below.refl _ _) hu hl hj
end
theorem S.wt_len (xss : List (List Nat)) (f t : Int) (h : ∀ x ∈ xss, x.length ≤ 1000) (hn : xss.length ≤ 9) : (S.wt xss f t).length ≤ 100000 := by
  have h1 : (S.wt xss f t).length ≤ (K.off xss.flatten).length := List.length_filter_le _ _
  have h2 := S.off_len xss.flatten
  have h3 := S.flat_le xss 1000 h
  have h4 : xss.length * 1000 ≤ 9 * 1000 := Nat.mul_le_mul_right _ hn
  omega
theorem S.off_self {l : List Nat} (h : K.Up l) : K.off l = l := T.up_extV (S.off_up l) h (S.off_mem l)
end Go.Proofs.Ytepdhjcgpjjjlaa
end
section
namespace Go.Proofs.Ytepdhjcgpjjjlaa
set_option maxRecDepth 20000
open Go.RowKit Go.Shelf
set_option maxRecDepth 100000 in
set_option maxHeartbeats 8000000 in
theorem siftJoins_any (w : World) (A1 A2 A3 : Option Addr) (c1 c2 c3 : Nat) (xs1 xs2 xs3 : List Nat) (n : Nat) (most : Int) (hn : n < 256) (hr1 : Rw w w.heap.size A1 xs1) (hr2 : Rw w w.heap.size A2 xs2) (hr3 : Rw w w.heap.size A3 xs3)
    (hl1 : xs1.length ≤ 9223372036854775807) (hl2 : xs2.length ≤ 9223372036854775807) (hl3 : xs3.length ≤ 9223372036854775807) :
    Calls Try.prog 3 #[.slice A1 xs1.length c1, .slice A2 xs2.length c2, .slice A3 xs3.length c3, .int .u8 (n : Int), .int .i64 most] w fun e w' => e = .returned (.bool true) ∧ Below w.heap.size w w' := by
  obtain ⟨i0, hi, hz0, hz1, hz2⟩ := info_parts u64_info
  obtain ⟨i1, ji, jz0, jz1, jz2⟩ := info_parts seq_infoV
  obtain ⟨l1, hla1⟩ : ∃ l, xs1.take 60 = l := ⟨_, rfl⟩
  obtain ⟨n1, hn1⟩ : ∃ n, l1.length = n := ⟨_, rfl⟩
  have f1 : n1 ≤ 60 := by rw [← hn1, ← hla1, List.length_take]; omega
  obtain ⟨X, hX⟩ : ∃ l, K.off l1 = l := ⟨_, rfl⟩
  obtain ⟨m1, hm1⟩ : ∃ n, X.length = n := ⟨_, rfl⟩
  have g1 : m1 ≤ 60 := by have := S.off_len l1; rw [hX, hm1, hn1] at this; omega
  have uX : K.Up X := by rw [← hX]; exact S.off_up _
  have HW1 : Hid (∀ V M, BK w V M → Calls Try.prog 8 #[.slice A1 xs1.length c1, .int .i64 60] V fun e w' => ∃ A' c', e = .returned (.slice A' n1 c') ∧ BK w w' ((.slice A' n1 c', l1) :: M)) := Lib.hid fun V M h => bk_words h A1 c1 xs1 60 hr1 hl1 (by decide) hla1 hn1
  have HF1 : Hid (∀ V M v, BK w V M → (v, l1) ∈ M → Calls Try.prog 7 #[v] V fun e w' => ∃ A' c', e = .returned (.slice A' m1 c') ∧ BK w w' ((.slice A' m1 c', X) :: M)) := Lib.hid fun V M v h hm => bk_of h hm hX hm1 (by omega)
  have HU1 := Lib.hid (And.intro uX hm1)
  obtain ⟨l2, hla2⟩ : ∃ l, xs2.take 60 = l := ⟨_, rfl⟩
  obtain ⟨n2, hn2⟩ : ∃ n, l2.length = n := ⟨_, rfl⟩
  have f2 : n2 ≤ 60 := by rw [← hn2, ← hla2, List.length_take]; omega
  obtain ⟨Y, hY⟩ : ∃ l, K.off l2 = l := ⟨_, rfl⟩
  obtain ⟨m2, hm2⟩ : ∃ n, Y.length = n := ⟨_, rfl⟩
  have g2 : m2 ≤ 60 := by have := S.off_len l2; rw [hY, hm2, hn2] at this; omega
  have uY : K.Up Y := by rw [← hY]; exact S.off_up _
  have HW2 : Hid (∀ V M, BK w V M → Calls Try.prog 8 #[.slice A2 xs2.length c2, .int .i64 60] V fun e w' => ∃ A' c', e = .returned (.slice A' n2 c') ∧ BK w w' ((.slice A' n2 c', l2) :: M)) := Lib.hid fun V M h => bk_words h A2 c2 xs2 60 hr2 hl2 (by decide) hla2 hn2
  have HF2 : Hid (∀ V M v, BK w V M → (v, l2) ∈ M → Calls Try.prog 7 #[v] V fun e w' => ∃ A' c', e = .returned (.slice A' m2 c') ∧ BK w w' ((.slice A' m2 c', Y) :: M)) := Lib.hid fun V M v h hm => bk_of h hm hY hm2 (by omega)
  have HU2 := Lib.hid (And.intro uY hm2)
  obtain ⟨l3, hla3⟩ : ∃ l, xs3.take 60 = l := ⟨_, rfl⟩
  obtain ⟨n3, hn3⟩ : ∃ n, l3.length = n := ⟨_, rfl⟩
  have f3 : n3 ≤ 60 := by rw [← hn3, ← hla3, List.length_take]; omega
  obtain ⟨Z, hZ⟩ : ∃ l, K.off l3 = l := ⟨_, rfl⟩
  obtain ⟨m3, hm3⟩ : ∃ n, Z.length = n := ⟨_, rfl⟩
  have g3 : m3 ≤ 60 := by have := S.off_len l3; rw [hZ, hm3, hn3] at this; omega
  have uZ : K.Up Z := by rw [← hZ]; exact S.off_up _
  have HW3 : Hid (∀ V M, BK w V M → Calls Try.prog 8 #[.slice A3 xs3.length c3, .int .i64 60] V fun e w' => ∃ A' c', e = .returned (.slice A' n3 c') ∧ BK w w' ((.slice A' n3 c', l3) :: M)) := Lib.hid fun V M h => bk_words h A3 c3 xs3 60 hr3 hl3 (by decide) hla3 hn3
  have HF3 : Hid (∀ V M v, BK w V M → (v, l3) ∈ M → Calls Try.prog 7 #[v] V fun e w' => ∃ A' c', e = .returned (.slice A' m3 c') ∧ BK w w' ((.slice A' m3 c', Z) :: M)) := Lib.hid fun V M v h hm => bk_of h hm hZ hm3 (by omega)
  have HU3 := Lib.hid (And.intro uZ hm3)
  obtain ⟨r, hr⟩ : ∃ r, n % 4 = r := ⟨_, rfl⟩
  have hr4 : r ≤ 3 := by omega
  have t1 : (n : Int).tmod 4 = (r : Int) := by rw [Int.tmod_eq_emod_of_nonneg (by omega)]; omega
  have t2 : (n : Int) % 4 = (r : Int) := by omega
  have t3 : IntKind.u8.wrap (r : Int) = (r : Int) := IntWalk.u8_in _ (by omega)
  have a1 : ∀ (B : Nat) w, (Instr.sliceAt 26 (.slice (some ⟨B, 0, none⟩) 3 3) none (some (.int .u8 (r : Int))) none).run Try.prog w = .ok (.slice (some ⟨B, 0, none⟩) r 3) w := fun B w => (cutr_h _ 3 3 r _ rfl hr4 (Nat.le_refl _)).1 w
  have a2 : ∀ (B : Nat) w, (Instr.slice 26 (.slice (some ⟨B, 0, none⟩) 3 3) none (some (.int .u8 (r : Int))) none).run Try.prog w = .ok (.slice (some ⟨B, 0, none⟩) r 3) w := fun B w => (cutr_h _ 3 3 r _ rfl hr4 (Nat.le_refl _)).2 w
  clear hr1 hr2 hr3 hl1 hl2 hl3 hla1 hla2 hla3 hn1 hn2 hn3 hX hY hZ hm1 hm2 hm3 uX uY uZ f1 f2 f3 hn hr
  generalize xs1.length = len1 at *
  generalize xs2.length = len2 at *
  generalize xs3.length = len3 at *
  go_enter Try.func3, Try.ntmps3
  go_wp2_with (first
    | (go_at_call 7; (with_reducible refine (HF3.out _ _ _ H6.out (by simp)).mono ?_); rintro e W7 ⟨A3', c3', rfl, h7⟩; have H7 := Lib.hid h7; clear h7)
    | (go_at_call 8; (with_reducible refine (HW3.out _ _ H5.out).mono ?_); rintro e W6 ⟨B3, d3, rfl, h6⟩; have H6 := Lib.hid h6; clear h6)
    | (go_at_call 7; (with_reducible refine (HF2.out _ _ _ H4.out (by simp)).mono ?_); rintro e W5 ⟨A2', c2', rfl, h5⟩; have H5 := Lib.hid h5; clear h5)
    | (go_at_call 8; (with_reducible refine (HW2.out _ _ H3.out).mono ?_); rintro e W4 ⟨B2, d2, rfl, h4⟩; have H4 := Lib.hid h4; clear h4)
    | (go_at_call 7; (with_reducible refine (HF1.out _ _ _ H2.out (by simp)).mono ?_); rintro e W3 ⟨A1', c1', rfl, h3⟩; have H3 := Lib.hid h3; clear h3)
    | (go_at_call 8; (with_reducible refine (HW1.out _ _ H1.out).mono ?_); rintro e W2 ⟨B1, d1, rfl, h2⟩; have H2 := Lib.hid h2; clear h2)
    | (go_at_call 6; (with_reducible refine (awake_any _).mono ?_); rintro e W1 ⟨rfl, h1⟩; have H1 : Hid (BK w _ []) := Lib.hid ⟨h1, fun p hp => by cases hp⟩; clear h1))
  have H8 := Lib.hid (H7.out.below ((Below.refl _ W7).alloc (Nat.le_refl _) (.cells #[.slice A1' m1 c1', .slice A2' m2 c2', .slice A3' m3 c3'] 22)))
  have HL := lr_lit W7 [(.slice A1' m1 c1', X), (.slice A2' m2 c2', Y), (.slice A3' m3 c3', Z)] (fun p hp => by
    simp at hp
    rcases hp with rfl | rfl | rfl
    · exact ⟨H7.out.kx _ (by simp), HU1.out.1, by rw [HU1.out.2]; omega⟩
    · exact ⟨H7.out.kx _ (by simp), HU2.out.1, by rw [HU2.out.2]; omega⟩
    · exact ⟨H7.out.kx _ (by simp), HU3.out.1, by rw [HU3.out.2]; omega⟩) r
  obtain ⟨vs, hvs⟩ : ∃ l, ([(.slice A1' m1 c1', X), (.slice A2' m2 c2', Y), (.slice A3' m3 c3', Z)] : List (Value × List Nat)).take r = l := ⟨_, rfl⟩
  have hvl : vs.length = r := by rw [← hvs, List.length_take]; simp; omega
  rw [hvs] at HL
  obtain ⟨b8, hb8⟩ : ∃ b, W7.heap.size = b := ⟨_, rfl⟩
  obtain ⟨W8, hW8⟩ : ∃ W, W7.alloc (.cells #[.slice A1' m1 c1', .slice A2' m2 c2', .slice A3' m3 c3'] 22) = W := ⟨_, rfl⟩
  simp only [List.map_cons, List.map_nil] at HL
  rw [hW8, hb8] at HL
  rw [hW8] at H8
  rw [hW8, hb8]
  have HLR := Lib.hid HL
  have HVS := Lib.hid hvs
  clear HL hvs hb8 hW8 H1 H2 H3 H4 H5 H6 H7 a1 a2 t1 t2 t3 HW1 HW2 HW3 HF1 HF2 HF3
  go_loopw [15, 44] (fun v i wr => ∃ (k : Nat) (l : List (Value × List Nat)), k ≤ r ∧ i = .int .i64 k ∧ l.map (·.2) = (vs.map (·.2)).take k ∧ Hid (FR W8 wr v l)) (fun _ i _ => r - (intOf i).toNat)
  case atStart => exact ⟨0, [], by omega, rfl, by simp, Lib.hid (FR.start _)⟩
  case round =>
    obtain ⟨k, l, hk, rfl, hlm, HFR⟩ := hrel
    by_cases hlt : k < r
    · have hkv : k < vs.length := by omega
      obtain ⟨b, off, B, nk, ck, hA, hc, _, hnk, hn1000, hkx, hux, _⟩ := (HLR.out.below HFR.out.low).get hkv
      injection hA with hA
      injection hA with e1 e2 _
      subst e1 e2
      simp only [Nat.zero_add] at hc
      have d0 : (k : Int) < (r : Int) := by omega
      have wk : IntKind.i64.wrap ((k : Int) + 1) = (k : Int) + 1 := IntWalk.i64_in _ (by omega)
      have hll : l.length ≤ 3 := by
        have h1 := congrArg List.length hlm
        rw [List.length_map, List.length_take] at h1
        omega
      have hlk : Hid ((vs.map (·.2)).take (k + 1) = (vs.map (·.2)).take k ++ [vs[k].2]) := Lib.hid (by rw [List.take_add_one]; simp [hkv])
      have HRW := Lib.hid (of_raw wr (.slice B nk ck) vs[k].2 vs[k].2 hkx (by omega) hux (fun _ => Iff.rfl))
      have HLM := Lib.hid hlm
      generalize vs[k].2 = x at *
      clear hkx hux hnk hlm hn1000
      go_wp2_with (first
        | (at_builtin; refine wpList_append_own_at _ rfl _ _ 27 rfl _ 29 i1 Value.nilFunc 1 8 Try.underlying27 ji jz0 jz1 jz2 rfl (by decide) _ _ _ rfl (HF9.out.own.alloc _) ⟨W9.heap.size, 0, none⟩ 1 1 [.func (.func 36) #[] #[.pointer (some ⟨Bn, 0, none⟩)]] rfl rfl ?c1 ?c2 ?c3 ?c4 ?c5 ?_)
        | (go_at_call 9; (with_reducible refine HRW.out.mono ?_); rintro e W9 ⟨f, N, rfl, hq, hN, hb9⟩; obtain ⟨Bn, rfl⟩ := hq.form; have HQ := Lib.hid hq; have HNN := Lib.hid hN; have HB9 := Lib.hid hb9; have HF9 := Lib.hid (HFR.out.below hb9); clear hq hN hb9))
      case c1 => first | exact cell_oneB W9 _ _ | exact cell_one _ _ _
      case c2 => intro u hu; simp at hu; subst hu; rfl
      case c3 => unfold maxLen; omega
      case c4 => omega
      case c5 => have := HF9.out.low.size; simp; omega
      intro v' w1 hown' hgrow _ hblk
      have HFS := Lib.hid (FR.snoc HFR.out HB9.out HQ.out HNN.out hown' hgrow hblk)
      clear hown' hgrow hblk
      go_wp2
      go_roundw
      case rel => exact ⟨k + 1, _, by omega, by go_num, by rw [List.map_append, HLM.out, hlk.out]; rfl, HFS⟩
      case measure => simp [intOf]; omega
    · have hkr : k = r := by omega
      have hlm2 : l.map (·.2) = vs.map (·.2) := by rw [hlm, hkr]; exact List.take_of_length_le (by rw [List.length_map, hvl]; exact Nat.le_refl _)
      have hlr : l.length = r := by have := congrArg List.length hlm2; rw [List.length_map, List.length_map] at this; omega
      obtain ⟨As, cs, rfl⟩ := K.own_form HFR.out.own
      have hF := HFR.out
      rw [hlr] at hF
      rw [hkr, hlr]
      have HFR2 := Lib.hid hF
      have HLM2 := Lib.hid (And.intro hlm2 hlr)
      have H9 := Lib.hid (H8.out.below hF.low)
      clear hF hlm2 hlr hlm HFR hlt hkr hk
      have HT := lr_lit wr [(.slice A1' m1 c1', X), (.slice A2' m2 c2', Y)] (fun p hp => by
        simp at hp
        rcases hp with rfl | rfl
        · exact ⟨H9.out.kx _ (by simp), HU1.out.1, by rw [HU1.out.2]; omega⟩
        · exact ⟨H9.out.kx _ (by simp), HU2.out.1, by rw [HU2.out.2]; omega⟩) 2
      have HT' := Lib.hid HT
      clear HT
      go_wp2
      obtain ⟨b9, hb9⟩ : ∃ b, wr.heap.size = b := ⟨_, rfl⟩
      obtain ⟨W11, hW11⟩ : ∃ W, wr.alloc (.cells #[.slice A1' m1 c1', .slice A2' m2 c2'] 22) = W := ⟨_, rfl⟩
      have hb11 : Below wr.heap.size wr W11 := by rw [← hW11]; exact (Below.refl _ _).alloc (Nat.le_refl _) _
      have HT := HT'.out
      simp only [List.map_cons, List.map_nil] at HT
      rw [hW11, hb9] at HT
      rw [hW11, hb9]
      have HTW := Lib.hid HT
      have H11 := Lib.hid (H9.out.below hb11)
      have HFR3 := Lib.hid (HFR2.out.below hb11)
      clear HT HT' hW11 hb9 hb11
      go_loopw [19, 59] (fun v i wq => ∃ j : Nat, j ≤ m1 ∧ i = .int .i64 j ∧ Hid (wq.ownsRow W11.heap.size 31 1 v (S.l2 (X.take j) Y).length (wv (S.l2 (X.take j) Y))) ∧ Hid (Below W11.heap.size W11 wq)) (fun _ i _ => m1 - (intOf i).toNat)
      case atStart => exact ⟨0, by omega, rfl, Lib.hid (by simp [S.l2, World.ownsRow_nil]), Lib.hid (Below.refl _ _)⟩
      case round =>
        obtain ⟨j, hj, rfl, HO, HB⟩ := hrel
        by_cases h2 : j < m1
        · have hX2 := HU1.out.2
          have h2' : j < X.length := by omega
          obtain ⟨hrx, _, _⟩ := (H11.out.below HB.out).rw (A := A1') (n := m1) (c := c1') (xs := X) (by simp)
          obtain ⟨b2, off2, rfl, _, hc2⟩ := hrx.at h2'
          have d1 : (j : Int) < (m1 : Int) := by omega
          have wj : IntKind.i64.wrap ((j : Int) + 1) = (j : Int) + 1 := IntWalk.i64_in _ (by omega)
          have hs : S.l2 (X.take (j + 1)) Y = S.l2 (X.take j) Y ++ if X[j] ∉ Y then [X[j]] else [] := by
            unfold S.l2
            rw [take_snocN h2', List.filter_append]
            by_cases hz : X[j] ∈ Y <;> simp [hz]
          have hfl : (S.l2 (X.take j) Y).length ≤ 1000 := by
            have h3 := S.l2_len (X.take j) Y
            rw [List.length_take] at h3
            omega
          have HHs := Lib.hid (fun b (hb : decide (X[j] ∈ Y) = b) => bk_has (w := wr) (W := wr) (M := [(.slice A2' m2 c2', Y)]) ⟨Below.refl _ _, fun p hp => by rcases List.mem_singleton.1 hp with rfl; exact (H11.out.below HB.out).kx _ (by simp)⟩ (v := .slice A2' m2 c2') (xs := Y) (by simp) HU2.out.1 (by rw [HU2.out.2]; omega) X[j] hb)
          generalize X[j] = z at *
          generalize S.l2 (X.take j) Y = ds at *
          clear hrx hX2
          by_cases hz : z ∈ Y
          · have HZ := Lib.hid (HHs.out true (decide_eq_true hz))
            rw [if_neg (by simp [hz]), List.append_nil] at hs
            have HS := Lib.hid hs
            clear hs HHs hz
            go_wp2_with (go_at_call 10; (with_reducible refine HZ.out.mono ?_); rintro e w8 ⟨rfl, h8⟩; have H12 := Lib.hid h8.low; clear h8)
            go_roundw
            case rel => exact ⟨j + 1, by omega, by go_num, Lib.hid (by rw [HS.out]; exact own_belV HO.out H12.out), Lib.hid (HB.out.trans (H12.out.mono HB.out.size))⟩
            case measure => simp [intOf]; omega
          · have HZ := Lib.hid (HHs.out false (decide_eq_false hz))
            rw [if_pos hz] at hs
            have HS := Lib.hid hs
            clear hs HHs hz
            go_wp2_with (first
              | (at_builtin; refine wpList_append_own _ rfl _ _ 22 rfl _ 31 i0 (.int .u64 0) 1 8 Try.underlying22 hi hz0 hz1 hz2 rfl (by decide) _ _ _ rfl (HOW.out.alloc _) ⟨W13.heap.size, 0, none⟩ 1 1 [.int .u64 (z : Int)] rfl rfl ?e1 ?e2 ?e3 ?e4 ?e5 ?_)
              | (go_at_call 10; (with_reducible refine HZ.out.mono ?_); rintro e W13 ⟨rfl, h8⟩; have H12 := Lib.hid h8.low; have HOW := Lib.hid (own_belV HO.out h8.low); have HLW := Lib.hid (HB.out.trans (h8.low.mono HB.out.size)); clear h8))
            case e1 => exact cell_one _ _ _
            case e2 => first | exact one_int _ _ | rfl
            case e3 => unfold maxLen; omega
            case e4 => omega
            case e5 => have := HLW.out.size; simp; omega
            intro v' w1 hown' hgrow _
            obtain ⟨hown2, hb2⟩ := own_snocN HLW.out HOW.out hown' hgrow
            clear hown' hgrow
            have HO2 := Lib.hid hown2
            have HB4 := Lib.hid hb2
            clear hown2 hb2
            go_wp2
            go_roundw
            case rel => exact ⟨j + 1, by omega, by go_num, Lib.hid (by rw [HS.out]; exact HO2.out), HB4⟩
            case measure => simp [intOf]; omega
        · have hjm : j = m1 := by omega
          have hO := HO.out
          have hX2 := HU1.out.2
          rw [hjm, show X.take m1 = X from List.take_of_length_le (by omega)] at hO
          rw [hjm]
          obtain ⟨Al, cl, rfl⟩ := K.own_form hO
          have hkl : KX wr (.slice Al (S.l2 X Y).length cl) (S.l2 X Y) := own_baseG hO (Nat.zero_le _)
          obtain ⟨nl, hnl⟩ : ∃ n, (S.l2 X Y).length = n := ⟨_, rfl⟩
          rw [hnl] at hkl ⊢
          have HKL := Lib.hid hkl
          have HK := Lib.hid (H11.out.below HB.out)
          have HFQ := Lib.hid (HFR3.out.below HB.out)
          have hLQ := HLR.out.below HFQ.out.low
          have HLQ := Lib.hid hLQ
          have hT2 := HTW.out.below HB.out
          have HTQ := Lib.hid hT2
          have hlow := H11.out.low.trans (HB.out.mono H11.out.low.size)
          have HLOW := Lib.hid hlow
          obtain ⟨xss, hxss⟩ : ∃ x, vs.map (·.2) = x := ⟨_, rfl⟩
          have hx3 : l.map (·.2) = xss := HLM2.out.1.trans hxss
          have hxl : xss.length = r := by rw [← hxss, List.length_map, hvl]
          have hxb : ∀ x ∈ xss, K.Up x ∧ x.length ≤ 1000 := fun x hx => by
            rw [← hxss] at hx
            obtain ⟨p, hp, rfl⟩ := List.mem_map.1 hx
            exact (hLQ.kx p hp).2
          have HX3 := Lib.hid (And.intro hx3 (And.intro hxl hxb))
          have HVL := Lib.hid (And.intro hvl hxss)
          have HR3 : Hid (r ≤ 9 ∧ r ≤ 10) := Lib.hid ⟨by omega, by omega⟩
          obtain ⟨zs1, hz1⟩ : ∃ z, S.wt xss 1 9 = z := ⟨_, rfl⟩
          obtain ⟨zs2, hz2⟩ : ∃ z, S.wt xss (max (r : Int) 1) 9 = z := ⟨_, rfl⟩
          have HZ1 : Hid (S.wt xss 1 9 = zs1 ∧ K.Up zs1 ∧ zs1.length ≤ 100000 ∧ ∀ z, z ∈ zs1 ↔ S.mOr xss z) := Lib.hid (by
            rw [← hz1]
            exact ⟨rfl, S.wt_up _ _ _, S.wt_len _ _ _ (fun x h => (hxb x h).2) (by omega), S.wt_or xss (by omega)⟩)
          have HZ2 : Hid (S.wt xss (max (r : Int) 1) 9 = zs2 ∧ K.Up zs2 ∧ zs2.length ≤ 100000 ∧ ∀ z, z ∈ zs2 ↔ S.mAnd xss z) := Lib.hid (by
            rw [← hz2]
            exact ⟨rfl, S.wt_up _ _ _, S.wt_len _ _ _ (fun x h => (hxb x h).2) (by omega), S.wt_and xss (by omega) r hxl⟩)
          have HOX := Lib.hid (S.off_self HU1.out.1)
          have HOY := Lib.hid (S.off_self HU2.out.1)
          have HXL : Hid (X.length ≤ 100000 ∧ Y.length ≤ 100000 ∧ X.length + Y.length ≤ 100000) := Lib.hid (by have h1 := HU1.out.2; have h2 := HU2.out.2; omega)
          have HW4 : Hid (∀ (U : World) (M : List (Value × List Nat)), Bg wr U M → Calls Try.prog 13 #[.slice (some ⟨b8, 0, none⟩) r 3, .int .i64 1, .int .i64 9] U fun e w' => ∃ A' n c', e = .returned (.slice A' n c') ∧ KX w' (.slice A' n c') zs1 ∧ Bg wr w' M) := Lib.hid fun U M h => bg_want h HVL.out.1 HLQ.out HR3.out.2 1 9 HVL.out.2 HZ1.out.1
          have HW7 : Hid (∀ (U : World) (M : List (Value × List Nat)), Bg wr U M → Calls Try.prog 13 #[.slice (some ⟨b8, 0, none⟩) r 3, .int .i64 (max (r : Int) 1), .int .i64 9] U fun e w' => ∃ A' n c', e = .returned (.slice A' n c') ∧ KX w' (.slice A' n c') zs2 ∧ Bg wr w' M) := Lib.hid fun U M h => bg_want h HVL.out.1 HLQ.out HR3.out.2 _ 9 HVL.out.2 HZ2.out.1
          have HW12 : Hid (∀ (U : World) (M : List (Value × List Nat)), Bg wr U M → Calls Try.prog 13 #[.slice (some ⟨b9, 0, none⟩) 2 2, .int .i64 1, .int .i64 1] U fun e w' => ∃ A' n c', e = .returned (.slice A' n c') ∧ KX w' (.slice A' n c') (S.x2 X Y) ∧ Bg wr w' M) := Lib.hid fun U M h => bg_want h (vs := [(.slice A1' m1 c1', X), (.slice A2' m2 c2', Y)]) (m := 2) rfl HTQ.out (by decide) 1 1 rfl S.wt_xor
          have HB0 := Lib.hid (Bg.start wr)
          clear hkl hLQ hT2 hlow hxss hx3 hxl hxb hz1 hz2 hO hX2 hnl hjm hj h2 HO hvl hr4
          go_wp2_with (first
            | (go_at_call 11; (with_reducible refine (bg_toldK HB12.out (xs := S.x2 X Y) (by simp) HK12.out most).mono ?_); rintro e U13 ⟨rfl, hb13⟩; have HB13 := Lib.hid hb13; clear hb13)
            | (go_at_call 13; (with_reducible refine (HW12.out _ _ HB11.out).mono ?_); rintro e U12 ⟨A12, n12, c12, rfl, hk12, hb12⟩; have HB12 := Lib.hid hb12; have HK12 := Lib.hid hk12; clear hb12 hk12)
            | (go_at_call 16; (with_reducible refine (bg_xor HB10.out (x1 := X) (x2 := Y) (by simp) (by simp) HXL.out.2.2).mono ?_); rintro e U11 ⟨gg11, ll11, rfl, hb11⟩; have HB11 := Lib.hid hb11; clear hb11)
            | (go_at_call 11; (with_reducible refine (bg_toldK HB9.out (xs := S.l2 X Y) (by simp) (HKL.out.below HB9.out.low) most).mono ?_); rintro e U10 ⟨rfl, hb10⟩; have HB10 := Lib.hid hb10; clear hb10)
            | (go_at_call 15; (with_reducible refine (bg_less HB8.out (x1 := X) (x2 := Y) (by simp) (by simp)).mono ?_); rintro e U9 ⟨gg9, ll9, rfl, hb9⟩; have HB9 := Lib.hid hb9; clear hb9)
            | (go_at_call 11; (with_reducible refine (bg_toldK HB7.out (xs := zs2) (by simp) HK7.out most).mono ?_); rintro e U8 ⟨rfl, hb8⟩; have HB8 := Lib.hid hb8; clear hb8)
            | (go_at_call 13; (with_reducible refine (HW7.out _ _ HB6.out).mono ?_); rintro e U7 ⟨A7, n7, c7, rfl, hk7, hb7⟩; have HB7 := Lib.hid hb7; have HK7 := Lib.hid hk7; clear hb7 hk7)
            | (go_at_call 14; (with_reducible refine (bg_andF HB5.out HFQ.out HX3.out.1 HX3.out.2.1 HR3.out.1 HX3.out.2.2 HZ2.out.2.1 HZ2.out.2.2.1 HZ2.out.2.2.2).mono ?_); rintro e U6 ⟨gg6, ll6, rfl, hb6⟩; have HB6 := Lib.hid hb6; clear hb6)
            | (go_at_call 11; (with_reducible refine (bg_toldK HB4.out (xs := zs1) (by simp) HK4.out most).mono ?_); rintro e U5 ⟨rfl, hb5⟩; have HB5 := Lib.hid hb5; clear hb5)
            | (go_at_call 13; (with_reducible refine (HW4.out _ _ HB3.out).mono ?_); rintro e U4 ⟨A4, n4, c4, rfl, hk4, hb4⟩; have HB4 := Lib.hid hb4; have HK4 := Lib.hid hk4; clear hb4 hk4)
            | (go_at_call 12; (with_reducible refine (bg_orF HB2.out HFQ.out HX3.out.1 HX3.out.2.1 HR3.out.1 HX3.out.2.2 HZ1.out.2.1 HZ1.out.2.2.1 HZ1.out.2.2.2).mono ?_); rintro e U3 ⟨gg3, ll3, rfl, hb3⟩; have HB3 := Lib.hid hb3; clear hb3)
            | (go_at_call 9; (with_reducible refine (bt_of HK.out HB1.out (v := .slice A2' m2 c2') (xs := Y) (by simp) HOY.out HXL.out.2.1).mono ?_); rintro e U2 ⟨gg2, ll2, rfl, hb2⟩; have HB2 := Lib.hid hb2; clear hb2)
            | (go_at_call 9; (with_reducible refine (bt_of HK.out HB0.out (v := .slice A1' m1 c1') (xs := X) (by simp) HOX.out HXL.out.1).mono ?_); rintro e U1 ⟨gg1, ll1, rfl, hb1⟩; have HB1 := Lib.hid hb1; clear hb1))
          all_goals
            go_ret
            exact ⟨by simp, HLOW.out.trans (HB13.out.low.mono HLOW.out.size)⟩
end Go.Proofs.Ytepdhjcgpjjjlaa
end
