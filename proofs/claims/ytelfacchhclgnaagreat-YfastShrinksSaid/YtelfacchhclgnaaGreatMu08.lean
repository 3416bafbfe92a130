/- Links behind all others, one by one; the layer's example; the texts walked. The links of a chain, one by one, over any body that leaves what is named as it is; the text walked. The trie's mathematics: beginnings and digits of keys, the keys below a node. The trie's mathematics: what a node holds; with a key more, with one less. How many nodes a key more makes; how many keys there may be. -/
import Derived.Test.YtelfacchhclgnaaGreatMu07
import Derived.Test.YtelfacchhclgnaaGreatMu04
import Derived.Test.YtelfacchhclgnaaGreatMu01
import Derived.Test.YtelfacchhclgnaaGreatMu03
section
namespace Go.Proofs.YtelfacchhclgnaaGreat
set_option maxRecDepth 20000
open Go.RowKit
set_option linter.unusedSectionVars false
variable [Gh]
/-- A chain that lies, with its meter, in blocks from B on. -/
def CL (B : Nat) (w0 w : World) (C Q M lim : Nat) (L : LL) : Prop :=
  ∃ An cn Af cf ns fs, CW w C Q M lim An cn Af cf ns fs L ∧ Below B w0 w ∧ B ≤ w0.heap.size ∧ ∀ j, CB C Q An Af j → B ≤ j
section
variable {B : Nat} {w0 w w' : World} {C Q M lim : Nat} {L : LL}
theorem CL.lt (h : CL B w0 w C Q M lim L) : B ≤ w.heap.size := by
  obtain ⟨_, _, _, _, _, _, _, hb, hB, _⟩ := h
  exact Nat.le_trans hB hb.size
theorem CL.cb (h : CL B w0 w C Q M lim L) : Cb w C Q M (hd L (-1)) (lst (-1) L) := by
  obtain ⟨_, _, _, _, _, _, hw, _⟩ := h
  exact hw.cb
theorem CL.below (h : CL B w0 w C Q M lim L) : Below B w0 w := by
  obtain ⟨_, _, _, _, _, _, _, hb, _⟩ := h
  exact hb
theorem CL.step (h : CL B w0 w C Q M lim L) {An cn Af cf ns fs An' cn' Af' cf' ns' fs'} {L' : LL} (hw : CW w C Q M lim An cn Af cf ns fs L) (hB : ∀ j, CB C Q An Af j → B ≤ j) (hw' : CW w' C Q M lim An' cn' Af' cf' ns' fs' L') (hc : K.Chg w w' (CB C Q An Af)) (hi : ∀ j, QB Q An' Af' j → QB Q An Af j ∨ w.heap.size ≤ j) : CL B w0 w' C Q M lim L' := by
  have hlt := h.lt
  refine ⟨An', cn', Af', cf', ns', fs', hw', h.below.trans (hc.below h.lt hB), ?_, fun j hj => ?_⟩
  · obtain ⟨_, _, _, _, _, _, _, _, hB, _⟩ := h
    exact hB
  · rcases hj with rfl | hj
    · exact hB _ (.inl rfl)
    · rcases hi j hj with h | h
      · exact hB j (.inr h)
      · omega
theorem CL.same {O : Nat → Prop} (h : CL B w0 w C Q M lim L) (hc : K.Chg w w' O) (hO : ∀ j, O j → B ≤ j ∧ ∀ An cn Af cf ns fs, CW w C Q M lim An cn Af cf ns fs L → ¬ CB C Q An Af j) : CL B w0 w' C Q M lim L := by
  have hlt := h.lt
  obtain ⟨An, cn, Af, cf, ns, fs, hw, hb, hB, hm⟩ := h
  exact ⟨An, cn, Af, cf, ns, fs, hw.chg hc (fun j hj ho => (hO j ho).2 _ _ _ _ _ _ hw hj), hb.trans (hc.below hlt (fun j ho => (hO j ho).1)), hB, hm⟩
theorem CL.stay (h : CL B w0 w C Q M lim L) (hc : K.Chg w w' (fun _ => False)) : CL B w0 w' C Q M lim L := h.same hc (fun _ ho => ho.elim)
theorem CL.met (h : CL B w0 w C Q M lim L) {tk : Nat} (hM : Mx w M tk) (hMB : B ≤ M) (hc : K.Chg w w' (· = M)) : CL B w0 w' C Q M lim L := h.same hc (fun j ho => by
  have e : j = M := ho
  subst e
  exact ⟨hMB, fun _ _ _ _ _ _ hw => hw.ne_m hM⟩)
theorem CL.push (h : CL B w0 w C Q M lim L) (k : Nat) (hk : k < 18446744073709551616) (hl : L.length < lim) :
    Calls Tryz.prog 149 #[.pointer (some ⟨C, 0, none⟩), .int .i64 (lst (-1) L), .int .u64 (k : Int)] w fun e w' => ∃ n : Nat, e = .returned (.tuple #[.int .i64 (n : Int), .bool true]) ∧ CL B w0 w' C Q M lim (L ++ [(n, k)]) ∧ ∀ tk, Mx w M tk → Mx w' M tk := by
  have hL := h
  obtain ⟨An, cn, Af, cf, ns, fs, hw, hb, hB, hm⟩ := h
  have fin : ∀ e w', BehP w C Q M lim An Af ns fs L [] k e w' → ∃ n : Nat, e = .returned (.tuple #[.int .i64 (n : Int), .bool true]) ∧ CL B w0 w' C Q M lim (L ++ [(n, k)]) ∧ ∀ tk, Mx w M tk → Mx w' M tk := by
    rintro e w' ⟨n, rfl, _, _, _, An', cn', Af', cf', ns', fs', hw', hc, hi, _⟩
    exact ⟨n, rfl, hL.step hw hm hw' hc hi, fun tk hM => hM.chg hc (hw.ne_m hM)⟩
  rcases List.eq_nil_or_concat L with rfl | ⟨L', x, rfl⟩
  · exact (c_behind_a w C Q M lim cn cf An Af ns fs (-1) (by decide) [] hw k hk hl).mono fin
  · obtain ⟨x, y⟩ := x
    rw [List.concat_eq_append] at *
    have e : lst (-1) (L' ++ [(x, y)]) = (x : Int) := by rw [lst_app]; rfl
    rw [e]
    rw [← List.append_nil (L' ++ [(x, y)])] at hw hl
    exact (c_behind_b w C Q M lim cn cf An Af ns fs x y L' [] hw k hk hl).mono fin
theorem CL.full (h : CL B w0 w C Q M lim L) (k : Nat) (hl : ¬ L.length < lim) :
    Calls Tryz.prog 149 #[.pointer (some ⟨C, 0, none⟩), .int .i64 (lst (-1) L), .int .u64 (k : Int)] w fun e w' => e = .returned (.tuple #[.int .i64 0, .bool false]) ∧ CL B w0 w' C Q M lim L ∧ ∀ tk, Mx w M tk → Mx w' M tk := by
  have hL := h
  obtain ⟨An, cn, Af, cf, ns, fs, hw, hb, hB, hm⟩ := h
  have fin : ∀ e w', e = Ending.returned (.tuple #[.int .i64 0, .bool false]) ∧ K.Chg w w' (fun _ => False) → e = .returned (.tuple #[.int .i64 0, .bool false]) ∧ CL B w0 w' C Q M lim L ∧ ∀ tk, Mx w M tk → Mx w' M tk := by
    rintro e w' ⟨rfl, hc⟩
    exact ⟨rfl, hL.stay hc, fun tk hM => hM.chg hc (fun h => h)⟩
  rcases List.eq_nil_or_concat L with rfl | ⟨L', x, rfl⟩
  · exact (c_behind_no_a w C Q M lim cn cf An Af ns fs (-1) (by decide) [] hw k hl).mono fin
  · obtain ⟨x, y⟩ := x
    rw [List.concat_eq_append] at *
    have e : lst (-1) (L' ++ [(x, y)]) = (x : Int) := by rw [lst_app]; rfl
    rw [e]
    exact (c_behind_no_b w C Q M lim cn cf An Af ns fs x y L' [] hw k hl).mono fin
end
end Go.Proofs.YtelfacchhclgnaaGreat
end
section
namespace Go.Proofs.YtelfacchhclgnaaGreat
set_option maxRecDepth 20000
set_option linter.unusedSectionVars false
variable [Gh]
open Go.RowKit Go.Shelf
attribute [local go_sem] Oper.semAt_some
theorem chg_of_but {w w' : World} {S : Nat → Prop} (h : ButS w w' S) : K.Chg w w' S := ⟨h.os, h.tape, h.output, h.size, fun g hg hn => h.block g hg hn⟩
theorem wide_fn (f : Nat) : Fence.wide.fn f := trivial
abbrev lenc (y : Nat × Nat) : Array Value := #[.int .i64 (y.1 : Int), .int .u64 (y.2 : Int)]
/-- Which link it is. -/
def ixl (L : LL) (i : Int) : Nat := L.findIdx (fun x => decide ((x.1 : Int) = i))
theorem ixl_at {L : LL} (hn : (L.map (·.1)).Nodup) (j : Nat) (hj : j ≤ L.length) : ixl L (hd (L.drop j) (-1)) = j := by
  induction L generalizing j with
  | nil =>
    obtain rfl : j = 0 := by simpa using hj
    rfl
  | cons x L ih =>
    rw [List.map_cons, List.nodup_cons] at hn
    cases j with
    | zero =>
      unfold ixl
      rw [List.drop_zero, List.findIdx_cons]
      have : decide ((x.1 : Int) = hd (x :: L) (-1)) = true := decide_eq_true rfl
      rw [this]
      rfl
    | succ j =>
      have h1 := ih hn.2 j (by simpa using hj)
      unfold ixl at h1 ⊢
      rw [List.drop_succ_cons, List.findIdx_cons]
      have hne : decide ((x.1 : Int) = hd (L.drop j) (-1)) = false := by
        refine decide_eq_false (fun e => ?_)
        cases hd2 : L.drop j with
        | nil =>
          rw [hd2] at e
          have : (x.1 : Int) = -1 := e
          omega
        | cons y L' =>
          rw [hd2] at e
          have e2 : (x.1 : Int) = (y.1 : Int) := e
          have hm : y ∈ L := List.mem_of_mem_drop (i := j) (by rw [hd2]; simp)
          exact hn.1 (List.mem_map.2 ⟨y, hm, by omega⟩)
      rw [hne, h1]
      rfl
set_option maxRecDepth 100000 in
set_option maxHeartbeats 2000000 in
theorem chain_all (n : Nat) (hn : 1 ≤ n) (Bn C Q M lim cn cf : Nat) (An Af : Option Addr) (ns : List (Nd × Bool)) (fs : List Nat) (L : LL) (Z : Nat → Prop) (hZB : Z Bn) (hZ : ∀ j, CB C Q An Af j → Z j) (w : World)
    (h : CW w C Q M lim An cn Af cf ns fs L) (hc : w.cell? ⟨Bn, 0, none⟩ = some (.pointer (some ⟨C, 0, none⟩))) (hBn : Bn < w.heap.size) :
    SeqW Fence.wide n Tryz.prog 140 #[.pointer (some ⟨Bn, 0, none⟩)] lenc Z (fun ys => ys = L) (fun pre => pre <+: L) (fun pre => pre <+: L) w := by
  intro l J Jx W hW hJ hJx hY h0
  have hCW : CW W C Q M lim An cn Af cf ns fs L := h.chg (K.Chg.of_below (O := fun _ => False) hW) (fun _ _ h => h)
  have hcW : W.cell? ⟨Bn, 0, none⟩ = some (.pointer (some ⟨C, 0, none⟩)) := (hW.cell (p := ⟨Bn, 0, none⟩) hBn).trans hc
  have hBW : Bn < W.heap.size := Nat.lt_of_lt_of_le hBn hW.size
  have c2 := hCW.cb.c2
  have hlen := hCW.len
  have HC := Lib.hid hCW
  have H0 := Lib.hid h0
  have HY := Lib.hid hY
  clear h hc hBn hW hCW h0 hY
  refine callsIn_of_wp Tryz.func140 rfl trivial ?_ rfl
  simp only [Tryz.ntmps140, List.size_toArray, List.length_cons, List.length_nil, Nat.reduceAdd, Nat.reduceSub, Array.replicate_succ, Array.replicate_zero, List.push_toArray, List.append_toArray, List.nil_append, List.cons_append]
  gi_wp2
  gi_loopw [3] (fun q wr => ∃ (j : Nat) (R : Nat → Prop), j ≤ L.length ∧ q = .int .i64 (hd (L.drop j) (-1)) ∧ Hid (J (L.take j) R wr) ∧ Hid (CW wr C Q M lim An cn Af cf ns fs L) ∧ wr.cell? ⟨Bn, 0, none⟩ = some (.pointer (some ⟨C, 0, none⟩)) ∧ Bn < wr.heap.size) (fun q _ => L.length - ixl L (intOf q))
  case atStart => exact ⟨0, fun _ => False, by omega, rfl, H0, HC, hcW, hBW⟩
  case round =>
    obtain ⟨j, R, hj, rfl, hJr, hCr, hcr, hBr⟩ := hrel
    rcases Nat.lt_or_ge j L.length with hjl | hjl
    · obtain ⟨x, y, hxy⟩ : ∃ x y, L[j] = (x, y) := ⟨_, _, rfl⟩
      have hsp : L = L.take j ++ (x, y) :: L.drop (j + 1) := by
        rw [← hxy, ← List.drop_eq_getElem_cons hjl, List.take_append_drop]
      have htk : L.take (j + 1) = L.take j ++ [(x, y)] := by rw [List.take_succ_eq_append_getElem hjl, hxy]
      have hdr : hd (L.drop j) (-1) = (x : Int) := by rw [List.drop_eq_getElem_cons hjl, hxy]; rfl
      have hix := Lib.hid (ixl_at hCr.out.nod (j + 1) hjl)
      have hix0 := Lib.hid (ixl_at hCr.out.nod j hj)
      obtain ⟨hx, hnx⟩ := hCr.out.at hsp
      have hq := q_peek_yes wr Q M lim cn cf An Af ns fs hCr.out.po x hx (by rw [hnx])
      rw [hnx] at hq
      have hq : Hid (Calls _ _ _ wr (PeekP wr (ndv y (lst (-1) (L.take j)) (hd (L.drop (j + 1)) (-1))) true)) := hq
      generalize lst (-1) (L.take j) = ah at *
      generalize hbe : hd (L.drop (j + 1)) (-1) = be at *
      have HBE := Lib.hid hbe
      have c1 := hCr.out.cb.c1
      have HTK := Lib.hid htk
      have hne : ((x : Int) != -1) = true := by
        rw [bne_iff_ne]; omega
      rw [hdr]
      rw [hdr] at hix0
      clear hsp htk hdr hnx hxy hbe
      gi_wp2_with (refine ⟨trivial, ?_⟩; gi_at_call 141; refine (callsIn_wide.2 hq.out).mono ?_; rintro e w1 ⟨rfl, hb1⟩
                   have hs1 := hb1.size
                   have hb2 : Below wr.heap.size wr (w1.alloc (ndo y ah be)) := hb1.alloc hs1 _
                   have hrow := K.alloc_top w1 (ndo y ah be)
                   obtain ⟨t0, t1, t2⟩ := nd_cells hrow
                   have HB2 := Lib.hid hb2
                   have HR := Lib.hid hrow
                   have HJ2 := Lib.hid (hJ _ R (fun g => g = w1.heap.size) _ (w1.alloc (ndo y ah be)) hJr.out (ButS.of_below hb2 (Nat.le_refl _)) (fun g hg => ⟨.inr (by omega), by rw [hg]; simp⟩))
                   obtain ⟨fn, tmps, assign, body, hy, hR⟩ := HY.out _ (x, y) _ _ HJ2.out (by rw [← HTK.out]; exact List.take_prefix _ _)
                   have HRR := Lib.hid hR
                   clear hb1 hb2 hrow hR)
      refine HRR.out.mono ?_
      rintro e W3 ⟨(⟨rfl, hJ3⟩ | ⟨rfl, hJx3⟩), hbut⟩
      · have hc3 := chg_of_but hbut
        have hlt1 : w1.heap.size < (w1.alloc (ndo y ah be)).heap.size := by simp
        have hrow3 := (hc3.block w1.heap.size hlt1 (fun h => h (.inr rfl))).trans HR.out
        obtain ⟨k0, k1, k2⟩ := nd_cells hrow3
        have hCW1 := hCr.out.chg (K.Chg.of_below (O := fun _ => False) HB2.out) (fun _ _ h => h)
        have hC3 := Lib.hid (hCW1.chg hc3 (fun j hj h => h (.inl (hZ j hj))))
        have hcr1 := (HB2.out.cell (p := ⟨Bn, 0, none⟩) hBr).trans hcr
        have hBr1 : Bn < (w1.alloc (ndo y ah be)).heap.size := Nat.lt_of_lt_of_le hBr HB2.out.size
        have hcr3 := (hc3.cell hBr1 (fun h => h (.inl hZB)) 0).trans hcr1
        have hBr3 : Bn < W3.heap.size := Nat.lt_of_lt_of_le hBr1 hc3.size
        have HJ3 : Hid (J (L.take (j + 1)) _ W3) := Lib.hid (by rw [HTK.out]; exact hJ3)
        clear hbut hc3 hrow3 hCW1 hcr1 hBr1 hJ3
        gi_wp2
        go_roundw
        case rel => exact ⟨j + 1, _, hjl, by rw [HBE.out], HJ3, hC3, hcr3, hBr3⟩
        case measure =>
          have h1 := hix.out
          have h2 := hix0.out
          simp only [intOf]
          omega
      · have HJx3 : Hid (Jx (L.take (j + 1)) _ W3) := Lib.hid (by rw [HTK.out]; exact hJx3)
        clear hJx3 hbut
        gi_wp2
        refine bodyPost_ret (results_none rfl _ _ _) rfl ?_
        exact ⟨⟨_, rfl⟩, .inr ⟨_, _, List.take_prefix _ _, HJx3.out⟩⟩
    · obtain rfl : j = L.length := by omega
      have e0 : hd (L.drop L.length) (-1) = -1 := by rw [List.drop_length]; rfl
      rw [e0]
      have HJ3 : Hid (J L _ wr) := Lib.hid (by have := hJr.out; rw [List.take_of_length_le (Nat.le_refl _)] at this; exact this)
      gi_wp2
      go_end0
      exact ⟨⟨_, rfl⟩, .inl ⟨_, _, rfl, HJ3.out⟩⟩
end Go.Proofs.YtelfacchhclgnaaGreat
end
section
namespace Go.Proofs.YtelfacchhclgnaaGreat
set_option maxRecDepth 20000
namespace T
/-- A key's beginning at a level (the eleventh is the key), and the digit behind it. -/
def pre (l k : Nat) : Nat := k / 64 ^ (11 - l)
def dig (l k : Nat) : Nat := pre (l + 1) k % 64
theorem pre_split {l : Nat} (hl : l < 11) (k : Nat) : pre (l + 1) k = pre l k * 64 + dig l k := by
  have e : pre l k = pre (l + 1) k / 64 := by
    unfold pre
    rw [Nat.div_div_eq_div_mul, ← Nat.pow_succ]
    congr 2
    omega
  unfold dig
  omega
theorem dig_lt (l k : Nat) : dig l k < 64 := Nat.mod_lt _ (by decide)
theorem pre_child {l : Nat} (hl : l < 11) {x p d : Nat} (h : pre (l + 1) x = p * 64 + d) (hd : d < 64) : pre l x = p ∧ dig l x = d := by
  have h1 := pre_split hl x
  have h2 := dig_lt l x
  omega
/-- The keys with one beginning. -/
def sub (xs : List Nat) (l p : Nat) : List Nat := xs.filter fun x => decide (pre l x = p)
theorem mem_sub {xs : List Nat} {l p x : Nat} : x ∈ sub xs l p ↔ x ∈ xs ∧ pre l x = p := by unfold sub; simp
/-- There is such a key. -/
def prs (xs : List Nat) (l p : Nat) : Prop := ∃ x ∈ xs, pre l x = p
instance (xs : List Nat) (l p : Nat) : Decidable (prs xs l p) := by unfold prs; exact inferInstance
theorem prs_sub {xs : List Nat} {l p : Nat} : prs xs l p ↔ sub xs l p ≠ [] := by
  constructor
  · rintro ⟨x, hx, hp⟩ h
    have : x ∈ sub xs l p := mem_sub.2 ⟨hx, hp⟩
    rw [h] at this
    cases this
  · intro h
    obtain ⟨x, hx⟩ := List.exists_mem_of_ne_nil _ h
    exact ⟨x, (mem_sub.1 hx).1, (mem_sub.1 hx).2⟩
theorem sub_up {xs : List Nat} (h : K.Up xs) (l p : Nat) : K.Up (sub xs l p) := h.filter _
/-- With a key more. -/
theorem sub_add {xs : List Nat} (h : K.Up xs) (k l p : Nat) (hk : k ∉ xs) : sub (K.add xs k) l p = if pre l k = p then K.add (sub xs l p) k else sub xs l p := by
  have hs : K.Up (sub (K.add xs k) l p) := sub_up (K.add_up h k) l p
  have hs2 : K.Up (if pre l k = p then K.add (sub xs l p) k else sub xs l p) := by
    split
    · exact K.add_up (sub_up h l p) k
    · exact sub_up h l p
  refine up_ext hs hs2 fun x => ?_
  rw [mem_sub, K.add_mem h]
  split
  · rename_i hp
    rw [K.add_mem (sub_up h l p), mem_sub]
    constructor
    · rintro ⟨rfl | h1, h2⟩
      · exact .inl rfl
      · exact .inr ⟨h1, h2⟩
    · rintro (rfl | ⟨h1, h2⟩)
      · exact ⟨.inl rfl, hp⟩
      · exact ⟨.inr h1, h2⟩
  · rename_i hp
    rw [mem_sub]
    constructor
    · rintro ⟨rfl | h1, h2⟩
      · exact absurd h2 hp
      · exact ⟨h1, h2⟩
    · rintro ⟨h1, h2⟩
      exact ⟨.inr h1, h2⟩
where
  up_ext {l m : List Nat} (hl : K.Up l) (hm : K.Up m) (h : ∀ x, x ∈ l ↔ x ∈ m) : l = m := by
    induction l generalizing m with
    | nil =>
      cases m with
      | nil => rfl
      | cons y m => exact absurd ((h y).2 (by simp)) (by simp)
    | cons x l ih =>
      cases m with
      | nil => exact absurd ((h x).1 (by simp)) (by simp)
      | cons y m =>
        have hx := List.pairwise_cons.1 hl
        have hy := List.pairwise_cons.1 hm
        have e : x = y := by
          have h1 := (h x).1 (by simp)
          have h2 := (h y).2 (by simp)
          rcases List.mem_cons.1 h1 with h1 | h1
          · exact h1
          · rcases List.mem_cons.1 h2 with h2 | h2
            · exact h2.symm
            · have := hx.1 y h2; have := hy.1 x h1; omega
        subst e
        congr 1
        refine ih hx.2 hy.2 fun z => ?_
        constructor
        · intro hz
          rcases List.mem_cons.1 ((h z).1 (List.mem_cons_of_mem _ hz)) with h1 | h1
          · subst h1; have := hx.1 z hz; omega
          · exact h1
        · intro hz
          rcases List.mem_cons.1 ((h z).2 (List.mem_cons_of_mem _ hz)) with h1 | h1
          · subst h1; have := hy.1 z hz; omega
          · exact h1
theorem up_ext {l m : List Nat} (hl : K.Up l) (hm : K.Up m) (h : ∀ x, x ∈ l ↔ x ∈ m) : l = m := sub_add.up_ext hl hm h
theorem add_len_new {xs : List Nat} (h : K.Up xs) {k : Nat} (hk : k ∉ xs) : (K.add xs k).length = xs.length + 1 := by
  unfold K.add
  rw [if_neg (fun hf => hk ((K.fo_mem h k).1 hf))]
  simp only [List.length_append, List.length_take, List.length_cons, List.length_drop]
  have := K.fi_le xs k
  omega
theorem drop_len {xs : List Nat} (h : K.Up xs) {k : Nat} (hk : k ∈ xs) : (K.drop xs k).length + 1 = xs.length := by
  have hf := (K.fo_mem h k).2 hk
  obtain ⟨h1, _⟩ := K.fo_lt hf
  unfold K.drop
  rw [if_pos hf]
  simp only [List.length_append, List.length_take, List.length_drop]
  omega
end T
end Go.Proofs.YtelfacchhclgnaaGreat
end
section
namespace Go.Proofs.YtelfacchhclgnaaGreat
set_option maxRecDepth 20000
namespace T
theorem bl_up (W : Nat) : K.Up (M.bl W) := M.bl_sorted W
theorem bl_set (W d : Nat) (hd : d < 64) : M.bl (W ||| M.one d) = K.add (M.bl W) d := by
  refine up_ext (bl_up _) (K.add_up (bl_up W) d) fun x => ?_
  rw [K.add_mem (bl_up W), M.mem_bl, M.mem_bl, Nat.testBit_or, M.one_bit]
  simp only [Bool.or_eq_true, decide_eq_true_eq]
  constructor
  · rintro ⟨h1, h2 | h2⟩
    · exact .inr ⟨h1, h2⟩
    · exact .inl (by omega)
  · rintro (rfl | ⟨h1, h2⟩)
    · exact ⟨hd, .inr (by omega)⟩
    · exact ⟨h1, .inl h2⟩
theorem filter_while {xs : List Nat} (h : K.Up xs) (k : Nat) : xs.filter (fun x => decide (x < k)) = xs.takeWhile fun x => decide (x < k) := by
  induction xs with
  | nil => rfl
  | cons x l ih =>
    have hx := List.pairwise_cons.1 h
    by_cases e : x < k
    · rw [List.filter_cons_of_pos (by simpa using e), List.takeWhile_cons_of_pos (by simpa using e), ih hx.2]
    · rw [List.filter_cons_of_neg (by simpa using e), List.takeWhile_cons_of_neg (by simpa using e)]
      rw [List.filter_eq_nil_iff]
      intro y hy
      have := hx.1 y hy
      simp only [decide_eq_true_eq]
      omega
/-- A digit's rank is its place. -/
theorem rank_fi (W d : Nat) : M.rRank (M.bz W) (d : Int) = K.fi (M.bl W) d := by
  unfold M.rRank M.bz K.fi
  rw [← filter_while (bl_up W), List.filter_map, List.length_map]
  congr 1
  refine List.filter_congr fun x _ => ?_
  simp
/-- The digits that come next. -/
def dgs (xs : List Nat) (l p : Nat) : List Nat := (List.range 64).filter fun d => decide (prs xs (l + 1) (p * 64 + d))
theorem dgs_up (xs : List Nat) (l p : Nat) : K.Up (dgs xs l p) := (List.pairwise_lt_range (n := 64)).filter _
theorem mem_dgs {xs : List Nat} {l p d : Nat} : d ∈ dgs xs l p ↔ d < 64 ∧ prs xs (l + 1) (p * 64 + d) := by unfold dgs; simp
theorem dgs_add {xs : List Nat} (h : K.Up xs) {l : Nat} (hl : l < 11) (k : Nat) : dgs (K.add xs k) l (pre l k) = K.add (dgs xs l (pre l k)) (dig l k) := by
  refine up_ext (dgs_up _ _ _) (K.add_up (dgs_up _ _ _) _) fun d => ?_
  rw [K.add_mem (dgs_up _ _ _), mem_dgs, mem_dgs]
  constructor
  · rintro ⟨h1, x, hx, e⟩
    rcases (K.add_mem h k x).1 hx with rfl | hx
    · exact .inl (pre_child hl e h1).2.symm
    · exact .inr ⟨h1, x, hx, e⟩
  · rintro (rfl | ⟨h1, x, hx, e⟩)
    · exact ⟨dig_lt l k, k, (K.add_mem h k k).2 (.inl rfl), pre_split hl k⟩
    · exact ⟨h1, x, (K.add_mem h k x).2 (.inr hx), e⟩
/-- The keys that have a beginning are alike in two lists: so is the node. -/
theorem sub_congr {xs ys : List Nat} {l p : Nat} (hx : K.Up xs) (hy : K.Up ys) (h : ∀ x, pre l x = p → (x ∈ xs ↔ x ∈ ys)) : sub xs l p = sub ys l p :=
  up_ext (sub_up hx l p) (sub_up hy l p) fun x => by
    rw [mem_sub, mem_sub]
    exact ⟨fun ⟨h1, h2⟩ => ⟨(h x h2).1 h1, h2⟩, fun ⟨h1, h2⟩ => ⟨(h x h2).2 h1, h2⟩⟩
theorem dgs_congr {xs ys : List Nat} {l p : Nat} (hl : l < 11) (h : ∀ x, pre l x = p → (x ∈ xs ↔ x ∈ ys)) : dgs xs l p = dgs ys l p :=
  up_ext (dgs_up _ _ _) (dgs_up _ _ _) fun d => by
    rw [mem_dgs, mem_dgs]
    constructor
    · rintro ⟨h1, x, hx, e⟩
      exact ⟨h1, x, (h x (pre_child hl e h1).1).1 hx, e⟩
    · rintro ⟨h1, x, hx, e⟩
      exact ⟨h1, x, (h x (pre_child hl e h1).1).2 hx, e⟩
theorem add_nil (k : Nat) : K.add [] k = [k] := rfl
theorem map_drop {ds : List Nat} {d : Nat} (hd : d ∈ ds) (hu : K.Up ds) (f : Nat → Nat) : (K.drop ds d).map f = (ds.map f).take (K.fi ds d) ++ (ds.map f).drop (K.fi ds d + 1) := by
  unfold K.drop
  rw [if_pos ((K.fo_mem hu d).2 hd), List.map_append, List.map_take, List.map_drop]
/-- What the node of a beginning holds. -/
structure NdOK (xs : List Nat) (pl : Nat → Nat → Nat) (l p W ks le gr : Nat) (ch : List Nat) : Prop where
  wlt : W < 18446744073709551616
  bits : M.bl W = dgs xs l p
  ks : ks = (sub xs l p).length
  le : (sub xs l p).head? = some le
  gr : (sub xs l p).getLast? = some gr
  ch : ch = if l < 10 then (dgs xs l p).map (fun d => pl (l + 1) (p * 64 + d)) else []
theorem NdOK.frame {xs ys : List Nat} {pl pl' : Nat → Nat → Nat} {l p W ks le gr : Nat} {ch : List Nat} (h : NdOK xs pl l p W ks le gr ch) (hl : l < 11) (hx : K.Up xs) (hy : K.Up ys) (he : ∀ x, pre l x = p → (x ∈ xs ↔ x ∈ ys))
    (hp : ∀ d, d < 64 → prs xs (l + 1) (p * 64 + d) → pl' (l + 1) (p * 64 + d) = pl (l + 1) (p * 64 + d)) : NdOK ys pl' l p W ks le gr ch := by
  have e1 := sub_congr hx hy he
  have e2 := dgs_congr hl he
  refine ⟨h.wlt, e2 ▸ h.bits, e1 ▸ h.ks, e1 ▸ h.le, e1 ▸ h.gr, ?_⟩
  rw [h.ch, ← e2]
  split
  · refine List.map_congr_left fun d hd => ?_
    have := mem_dgs.1 hd
    exact (hp d this.1 this.2).symm
  · rfl
/-- A new node, of one key. -/
theorem NdOK.fresh {xs : List Nat} {pl' : Nat → Nat → Nat} {l k : Nat} (hl : l < 11) (hx : K.Up xs) (hn : ¬ prs xs l (pre l k)) :
    NdOK (K.add xs k) pl' l (pre l k) (0 ||| M.one (dig l k)) (0 + 1) (min k k) (max k k) (if l < 10 then [pl' (l + 1) (pre (l + 1) k)] else []) := by
  have hk : k ∉ xs := fun hm => hn ⟨k, hm, rfl⟩
  have hs := sub_add hx k l (pre l k) hk
  rw [if_pos rfl] at hs
  have hn2 : sub xs l (pre l k) = [] := by
    rcases Classical.em (sub xs l (pre l k) = []) with h | h
    · exact h
    · exact absurd (prs_sub.2 h) hn
  have hd : dgs xs l (pre l k) = [] := by
    unfold dgs
    rw [List.filter_eq_nil_iff]
    intro d hd
    simp only [decide_eq_true_eq]
    rintro ⟨x, hx, e⟩
    exact hn ⟨x, hx, (pre_child hl e (List.mem_range.1 hd)).1⟩
  rw [hn2, add_nil] at hs
  refine ⟨M.or_lt (by decide) (M.one_lt _), ?_, ?_, ?_, ?_, ?_⟩
  · rw [bl_set _ _ (dig_lt l k), dgs_add hx hl, hd, M.bl_zero]
  · rw [hs]; rfl
  · rw [hs, Nat.min_self]; rfl
  · rw [hs, Nat.max_self]; rfl
  · rw [dgs_add hx hl, hd, add_nil]
    split
    · show [_] = [pl' (l + 1) (pre l k * 64 + dig l k)]
      rw [← pre_split hl]
    · rfl
end T
end Go.Proofs.YtelfacchhclgnaaGreat
end
section
namespace Go.Proofs.YtelfacchhclgnaaGreat
set_option maxRecDepth 20000
namespace T
theorem offs_snoc (l : List Nat) (a : Nat) : K.off (l ++ [a]) = K.add (K.off l) a := by simp [K.off]
theorem snoc_ind {p : List Nat → Prop} (h0 : p []) (hs : ∀ l a, p l → p (l ++ [a])) (l : List Nat) : p l := M.snoc_indN h0 hs l
theorem off_up (l : List Nat) : K.Up (K.off l) := by
  refine snoc_ind (p := fun l => K.Up (K.off l)) List.Pairwise.nil (fun l a ih => ?_) l
  rw [offs_snoc]
  exact K.add_up ih a
theorem off_mem (l : List Nat) (x : Nat) : x ∈ K.off l ↔ x ∈ l := by
  refine snoc_ind (p := fun l => x ∈ K.off l ↔ x ∈ l) (by simp [K.off]) (fun l a ih => ?_) l
  rw [offs_snoc, K.add_mem (off_up l), ih, List.mem_append, List.mem_singleton]
  exact or_comm
theorem add_len' {xs : List Nat} (h : K.Up xs) (k : Nat) : (K.add xs k).length = xs.length + if k ∈ xs then 0 else 1 := by
  split
  · rename_i hk
    unfold K.add
    rw [if_pos ((K.fo_mem h k).2 hk), Nat.add_zero]
  · rename_i hk
    exact add_len_new h hk
theorem kinds_off {xs : List Nat} (h : K.Up xs) {b : Nat} (hb : 0 < b) : ∀ j, j ≤ xs.length → K.kd xs b j = (K.off ((xs.take j).map fun x => x / 2 ^ (64 - b))).length
  | 0, _ => rfl
  | j + 1, hj => by
    have ih := kinds_off h hb j (by omega)
    show K.kd xs b j + (if K.kc xs b j then 1 else 0) = _
    rw [List.take_succ_eq_append_getElem (by omega), List.map_append, List.map_cons, List.map_nil, offs_snoc, add_len' (off_up _), ih]
    congr 1
    have hm : xs[j] / 2 ^ (64 - b) ∈ K.off ((xs.take j).map fun x => x / 2 ^ (64 - b)) ↔ (0 < j ∧ (xs[j]?).getD 0 / 2 ^ (64 - b) = (xs[j - 1]?).getD 0 / 2 ^ (64 - b)) := by
      rw [off_mem, List.mem_map]
      constructor
      · rintro ⟨x, hx, e⟩
        obtain ⟨i, hi, rfl⟩ := List.getElem_of_mem hx
        rw [List.length_take] at hi
        rw [List.getElem_take] at e
        refine ⟨by omega, ?_⟩
        rw [List.getElem?_eq_getElem (by omega), List.getElem?_eq_getElem (by omega), Option.getD_some, Option.getD_some]
        have h1 : xs[i]'(by omega) ≤ xs[j - 1]'(by omega) := by
          rcases Nat.lt_or_ge i (j - 1) with h2 | h2
          · exact Nat.le_of_lt (K.up_lt h h2 (by omega))
          · have : i = j - 1 := by omega
            subst this
            exact Nat.le_refl _
        have h2 : xs[j - 1]'(by omega) < xs[j]'(by omega) := K.up_lt h (by omega) (by omega)
        have h3 := Nat.div_le_div_right (c := 2 ^ (64 - b)) h1
        have h4 := Nat.div_le_div_right (c := 2 ^ (64 - b)) (Nat.le_of_lt h2)
        have e : xs[i]'(by omega) / 2 ^ (64 - b) = xs[j]'(by omega) / 2 ^ (64 - b) := e
        omega
      · rintro ⟨h0, e⟩
        rw [List.getElem?_eq_getElem (by omega), List.getElem?_eq_getElem (by omega), Option.getD_some, Option.getD_some] at e
        refine ⟨xs[j - 1]'(by omega), ?_, e.symm⟩
        have : (xs.take j)[j - 1]'(by rw [List.length_take]; omega) = xs[j - 1]'(by omega) := List.getElem_take ..
        rw [← this]
        exact List.getElem_mem _
    unfold K.kc
    by_cases h2 : xs[j] / 2 ^ (64 - b) ∈ K.off ((xs.take j).map fun x => x / 2 ^ (64 - b))
    · rw [if_pos h2]
      obtain ⟨h3, h4⟩ := hm.1 h2
      have h0 : decide (j = 0) = false := decide_eq_false (by omega)
      rw [h0, decide_eq_true h4, decide_eq_true hb]
      simp
    · rw [if_neg h2]
      by_cases h0 : j = 0
      · rw [decide_eq_true h0]; simp
      · have h4 : ¬ ((xs[j]?).getD 0 / 2 ^ (64 - b) = (xs[j - 1]?).getD 0 / 2 ^ (64 - b)) := fun e => h2 (hm.2 ⟨by omega, e⟩)
        rw [decide_eq_false h4, decide_eq_true hb]
        simp
theorem kinds_eq {xs : List Nat} (h : K.Up xs) {b : Nat} (hb : 0 < b) : K.kinds xs b = (K.off (xs.map fun x => x / 2 ^ (64 - b))).length := by
  have := kinds_off h hb xs.length (Nat.le_refl _)
  rw [List.take_length] at this
  exact this
theorem kinds_add {xs : List Nat} (h : K.Up xs) (k : Nat) {b : Nat} (hb : 0 < b) : K.kinds (K.add xs k) b = K.kinds xs b + if (∃ x ∈ xs, x / 2 ^ (64 - b) = k / 2 ^ (64 - b)) then 0 else 1 := by
  rw [kinds_eq (K.add_up h k) hb, kinds_eq h hb]
  have e : K.off ((K.add xs k).map fun x => x / 2 ^ (64 - b)) = K.add (K.off (xs.map fun x => x / 2 ^ (64 - b))) (k / 2 ^ (64 - b)) := by
    refine up_ext (off_up _) (K.add_up (off_up _) _) fun y => ?_
    rw [off_mem, K.add_mem (off_up _), off_mem, List.mem_map, List.mem_map]
    constructor
    · rintro ⟨x, hx, rfl⟩
      rcases (K.add_mem h k x).1 hx with rfl | hx
      · exact .inl rfl
      · exact .inr ⟨x, hx, rfl⟩
    · rintro (rfl | ⟨x, hx, rfl⟩)
      · exact ⟨k, (K.add_mem h k k).2 (.inl rfl), rfl⟩
      · exact ⟨x, (K.add_mem h k x).2 (.inr hx), rfl⟩
  rw [e, add_len' (off_up _)]
  congr 1
  have : (k / 2 ^ (64 - b) ∈ K.off (xs.map fun x => x / 2 ^ (64 - b))) ↔ ∃ x ∈ xs, x / 2 ^ (64 - b) = k / 2 ^ (64 - b) := by rw [off_mem, List.mem_map]
  by_cases h2 : ∃ x ∈ xs, x / 2 ^ (64 - b) = k / 2 ^ (64 - b)
  · rw [if_pos h2, if_pos (this.2 h2)]
  · rw [if_neg h2, if_neg (fun h3 => h2 (this.1 h3))]
theorem kinds_zero (xs : List Nat) : K.kinds xs 0 = if xs = [] then 0 else 1 := by
  have : ∀ j, K.kd xs 0 j = if j = 0 then 0 else 1 := by
    intro j
    induction j with
    | zero => rfl
    | succ j ih =>
      show K.kd xs 0 j + (if K.kc xs 0 j then 1 else 0) = _
      rw [ih]
      unfold K.kc
      by_cases h : j = 0
      · subst h; simp
      · simp [h]
  unfold K.kinds
  rw [this]
  cases xs <;> simp
theorem add_ne_nil (xs : List Nat) (k : Nat) : K.add xs k ≠ [] := by
  intro e
  unfold K.add at e
  split at e
  · rename_i h
    rw [e] at h
    simp [K.fo, K.fi] at h
  · simp at e
/-- No node of the last level has more than 64 keys. -/
theorem nodup_le : ∀ (n a : Nat) (l : List Nat), K.Up l → (∀ x ∈ l, a ≤ x ∧ x < a + n) → l.length ≤ n
  | 0, a, l, _, h => by
    cases l with
    | nil => simp
    | cons x l => have := h x (by simp); omega
  | n + 1, a, l, hu, h => by
    cases l with
    | nil => simp
    | cons x l =>
      have hx := h x (by simp)
      have := nodup_le n (a + 1) l (K.up_tail hu) (fun y hy => by
        have h1 := h y (by simp [hy])
        have h2 := (List.pairwise_cons.1 hu).1 y hy
        omega)
      simp
      omega
theorem split_len (p : Nat → Bool) : ∀ l : List Nat, l.length = (l.filter p).length + (l.filter fun x => !p x).length
  | [] => rfl
  | x :: l => by
    have ih := split_len p l
    cases hp : p x <;> simp [hp] <;> omega
theorem len_le {xs : List Nat} (h : K.Up xs) : ∀ (us : List Nat), (∀ x ∈ xs, x / 64 ∈ us) → xs.length ≤ 64 * us.length
  | us, hm => by
    induction us generalizing xs with
    | nil =>
      cases xs with
      | nil => simp
      | cons x l => exact absurd (hm x (by simp)) (by simp)
    | cons u us ih =>
      have h1 := ih (xs := xs.filter fun x => !decide (x / 64 = u)) (h.filter _) (fun x hx => by
        rw [List.mem_filter] at hx
        rcases List.mem_cons.1 (hm x hx.1) with h2 | h2
        · rw [h2] at hx; simp at hx
        · exact h2)
      have h2 := nodup_le 64 (64 * u) (xs.filter fun x => decide (x / 64 = u)) (h.filter _) (fun x hx => by
        rw [List.mem_filter] at hx
        have := of_decide_eq_true hx.2
        omega)
      have h3 := split_len (fun x => decide (x / 64 = u)) xs
      simp only [List.length_cons]
      omega
end T
end Go.Proofs.YtelfacchhclgnaaGreat
end
