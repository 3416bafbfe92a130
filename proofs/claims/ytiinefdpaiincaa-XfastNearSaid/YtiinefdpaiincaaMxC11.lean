/- The links of a chain, one by one, over any body that leaves what is named as it is; the text walked. -/
import Derived.Test.YtiinefdpaiincaaMgP
import Derived.Test.YtiinefdpaiincaaMxC8
namespace Go.Proofs.Ytiinefdpaiincaa
open Go.RowKit Go.Shelf
attribute [local go_sem] Oper.semAt_some
theorem chg_of_but {w w' : World} {S : Nat → Prop} (h : ButS w w' S) : K.Chg w w' S := ⟨h.os, h.tape, h.output, h.size, fun g hg hn => h.block g hg hn⟩
theorem but_of_chg {w w' : World} {S : Nat → Prop} (h : K.Chg w w' S) : ButS w w' S := ⟨h.os, h.tape, h.output, h.size, fun g hg hn => h.block g hg hn⟩
theorem wide_fn (f : Nat) : Fence.wide.fn f := trivial
abbrev lenc (y : Nat × Nat) : Array Value := #[.int .i64 (y.1 : Int), .int .u64 (y.2 : Int)]
/-- Which link it is. -/
def ixl (L : LL) (i : Int) : Nat := L.findIdx (fun x => decide ((x.1 : Int) = i))
theorem ixl_at {L : LL} (hn : (L.map (·.1)).Nodup) (j : Nat) (hj : j ≤ L.length) : ixl L (hd (L.drop j) (-1)) = j := by
  induction L generalizing j with
  | nil =>
    obtain rfl : j = 0 := by simpa using hj
    rfl
  | cons x L ih =>
    rw [List.map_cons, List.nodup_cons] at hn
    cases j with
    | zero =>
      unfold ixl
      rw [List.drop_zero, List.findIdx_cons]
      have : decide ((x.1 : Int) = hd (x :: L) (-1)) = true := decide_eq_true rfl
      rw [this]
      rfl
    | succ j =>
      have h1 := ih hn.2 j (by simpa using hj)
      unfold ixl at h1 ⊢
      rw [List.drop_succ_cons, List.findIdx_cons]
      have hne : decide ((x.1 : Int) = hd (L.drop j) (-1)) = false := by
        refine decide_eq_false (fun e => ?_)
        cases hd2 : L.drop j with
        | nil =>
          rw [hd2] at e
          have : (x.1 : Int) = -1 := e
          omega
        | cons y L' =>
          rw [hd2] at e
          have e2 : (x.1 : Int) = (y.1 : Int) := e
          have hm : y ∈ L := List.mem_of_mem_drop (i := j) (by rw [hd2]; simp)
          exact hn.1 (List.mem_map.2 ⟨y, hm, by omega⟩)
      rw [hne, h1]
      rfl
set_option maxRecDepth 100000 in
set_option maxHeartbeats 2000000 in
theorem chain_all (n : Nat) (hn : 1 ≤ n) (Bn C Q M lim cn cf : Nat) (An Af : Option Addr) (ns : List (Nd × Bool)) (fs : List Nat) (L : LL) (Z : Nat → Prop) (hZB : Z Bn) (hZ : ∀ j, CB C Q An Af j → Z j) (w : World)
    (h : CW w C Q M lim An cn Af cf ns fs L) (hc : w.cell? ⟨Bn, 0, none⟩ = some (.pointer (some ⟨C, 0, none⟩))) (hBn : Bn < w.heap.size) :
    SeqW Fence.wide n Try.prog 75 #[.pointer (some ⟨Bn, 0, none⟩)] lenc Z (fun ys => ys = L) (fun pre => pre <+: L) (fun pre => pre <+: L) w := by
  intro l J Jx W hW hJ hJx hY h0
  have hCW : CW W C Q M lim An cn Af cf ns fs L := h.chg (K.Chg.of_below (O := fun _ => False) hW) (fun _ _ h => h)
  have hcW : W.cell? ⟨Bn, 0, none⟩ = some (.pointer (some ⟨C, 0, none⟩)) := (hW.cell (p := ⟨Bn, 0, none⟩) hBn).trans hc
  have hBW : Bn < W.heap.size := Nat.lt_of_lt_of_le hBn hW.size
  have c2 := hCW.cb.c2
  have hlen := hCW.len
  have HC := Lib.hid hCW
  have H0 := Lib.hid h0
  have HY := Lib.hid hY
  clear h hc hBn hW hCW h0 hY
  refine callsIn_of_wp Try.func75 rfl trivial ?_ rfl
  simp only [Try.ntmps75, List.size_toArray, List.length_cons, List.length_nil, Nat.reduceAdd, Nat.reduceSub, Array.replicate_succ, Array.replicate_zero, List.push_toArray, List.append_toArray, List.nil_append, List.cons_append]
  gi_wp2
  gi_loopw [3] (fun q wr => ∃ (j : Nat) (R : Nat → Prop), j ≤ L.length ∧ q = .int .i64 (hd (L.drop j) (-1)) ∧ Hid (J (L.take j) R wr) ∧ Hid (CW wr C Q M lim An cn Af cf ns fs L) ∧ wr.cell? ⟨Bn, 0, none⟩ = some (.pointer (some ⟨C, 0, none⟩)) ∧ Bn < wr.heap.size) (fun q _ => L.length - ixl L (intOf q))
  case atStart => exact ⟨0, fun _ => False, by omega, rfl, H0, HC, hcW, hBW⟩
  case round =>
    obtain ⟨j, R, hj, rfl, hJr, hCr, hcr, hBr⟩ := hrel
    rcases Nat.lt_or_ge j L.length with hjl | hjl
    · obtain ⟨x, y, hxy⟩ : ∃ x y, L[j] = (x, y) := ⟨_, _, rfl⟩
      have hsp : L = L.take j ++ (x, y) :: L.drop (j + 1) := by
        rw [← hxy, ← List.drop_eq_getElem_cons hjl, List.take_append_drop]
      have htk : L.take (j + 1) = L.take j ++ [(x, y)] := by rw [List.take_succ_eq_append_getElem hjl, hxy]
      have hdr : hd (L.drop j) (-1) = (x : Int) := by rw [List.drop_eq_getElem_cons hjl, hxy]; rfl
      have hix := Lib.hid (ixl_at hCr.out.nod (j + 1) hjl)
      have hix0 := Lib.hid (ixl_at hCr.out.nod j hj)
      obtain ⟨hx, hnx⟩ := hCr.out.at hsp
      have hq := q_peek_yes wr Q M lim cn cf An Af ns fs hCr.out.po x hx (by rw [hnx])
      rw [hnx] at hq
      have hq : Hid (Calls _ _ _ wr (PeekP wr (ndv y (lst (-1) (L.take j)) (hd (L.drop (j + 1)) (-1))) true)) := hq
      generalize lst (-1) (L.take j) = ah at *
      generalize hbe : hd (L.drop (j + 1)) (-1) = be at *
      have HBE := Lib.hid hbe
      have c1 := hCr.out.cb.c1
      have HTK := Lib.hid htk
      have hne : ((x : Int) != -1) = true := by
        rw [bne_iff_ne]; omega
      rw [hdr]
      rw [hdr] at hix0
      clear hsp htk hdr hnx hxy hbe
      gi_wp2_with (refine ⟨trivial, ?_⟩; gi_at_call 76; refine (callsIn_wide.2 hq.out).mono ?_; rintro e w1 ⟨rfl, hb1⟩
                   have hs1 := hb1.size
                   have hb2 : Below wr.heap.size wr (w1.alloc (ndo y ah be)) := hb1.alloc hs1 _
                   have hrow := K.alloc_top w1 (ndo y ah be)
                   obtain ⟨t0, t1, t2⟩ := nd_cells hrow
                   have HB2 := Lib.hid hb2
                   have HR := Lib.hid hrow
                   have HJ2 := Lib.hid (hJ _ R (fun g => g = w1.heap.size) _ (w1.alloc (ndo y ah be)) hJr.out (ButS.of_below hb2 (Nat.le_refl _)) (fun g hg => ⟨.inr (by omega), by rw [hg]; simp⟩))
                   obtain ⟨fn, tmps, assign, body, hy, hR⟩ := HY.out _ (x, y) _ _ HJ2.out (by rw [← HTK.out]; exact List.take_prefix _ _)
                   have HRR := Lib.hid hR
                   clear hb1 hb2 hrow hR)
      refine HRR.out.mono ?_
      rintro e W3 ⟨(⟨rfl, hJ3⟩ | ⟨rfl, hJx3⟩), hbut⟩
      · have hc3 := chg_of_but hbut
        have hlt1 : w1.heap.size < (w1.alloc (ndo y ah be)).heap.size := by simp
        have hrow3 := (hc3.block w1.heap.size hlt1 (fun h => h (.inr rfl))).trans HR.out
        obtain ⟨k0, k1, k2⟩ := nd_cells hrow3
        have hCW1 := hCr.out.chg (K.Chg.of_below (O := fun _ => False) HB2.out) (fun _ _ h => h)
        have hC3 := Lib.hid (hCW1.chg hc3 (fun j hj h => h (.inl (hZ j hj))))
        have hcr1 := (HB2.out.cell (p := ⟨Bn, 0, none⟩) hBr).trans hcr
        have hBr1 : Bn < (w1.alloc (ndo y ah be)).heap.size := Nat.lt_of_lt_of_le hBr HB2.out.size
        have hcr3 := (hc3.cell hBr1 (fun h => h (.inl hZB)) 0).trans hcr1
        have hBr3 : Bn < W3.heap.size := Nat.lt_of_lt_of_le hBr1 hc3.size
        have HJ3 : Hid (J (L.take (j + 1)) _ W3) := Lib.hid (by rw [HTK.out]; exact hJ3)
        clear hbut hc3 hrow3 hCW1 hcr1 hBr1 hJ3
        gi_wp2
        go_roundw
        case rel => exact ⟨j + 1, _, hjl, by rw [HBE.out], HJ3, hC3, hcr3, hBr3⟩
        case measure =>
          have h1 := hix.out
          have h2 := hix0.out
          simp only [intOf]
          omega
      · have HJx3 : Hid (Jx (L.take (j + 1)) _ W3) := Lib.hid (by rw [HTK.out]; exact hJx3)
        clear hJx3 hbut
        gi_wp2
        refine bodyPost_ret (results_none rfl _ _ _) rfl ?_
        exact ⟨⟨_, rfl⟩, .inr ⟨_, _, List.take_prefix _ _, HJx3.out⟩⟩
    · obtain rfl : j = L.length := by omega
      have e0 : hd (L.drop L.length) (-1) = -1 := by rw [List.drop_length]; rfl
      rw [e0]
      have HJ3 : Hid (J L _ wr) := Lib.hid (by have := hJr.out; rw [List.take_of_length_le (Nat.le_refl _)] at this; exact this)
      gi_wp2
      go_end0
      exact ⟨⟨_, rfl⟩, .inl ⟨_, _, rfl, HJ3.out⟩⟩
end Go.Proofs.Ytiinefdpaiincaa
