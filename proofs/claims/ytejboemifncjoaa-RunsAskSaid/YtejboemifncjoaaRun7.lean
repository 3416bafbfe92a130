
/- Runs in a row of one's own are sorted; an empty one too; the texts walked. -/
import Derived.Test.YtejboemifncjoaaRun6
import Derived.Test.YtejboemifncjoaaRun5
namespace Go.Proofs.Ytejboemifncjoaa
open Go.RowKit Go.Lib Go.Sort Go.Shelf
set_option maxHeartbeats 4000000 in
theorem ins_nil (c : Nat) (F : Value) (w : World) : Calls Try.prog 56 #[.slice none 0 c, .int .i64 0, .int .i64 0, F] w fun e w' => e = .returned (.tuple #[]) ∧ w = w' := by
  go_enter Try.func56, Try.ntmps56
  go_wp2
  go_loop [8] (fun vi => vi = .int .i64 1) (fun _ => 0)
  case atStart => rfl
  case round =>
    subst hrel
    go_wp2
    go_end0
    exact ⟨rfl, rfl⟩
theorem len_zero (w : World) : Calls Try.prog 54 #[.int .u64 0] w fun e w' => ∃ l, e = .returned (.int .i64 l) ∧ w = w' := by
  go_enter Try.func54, Try.ntmps54
  go_wp2
  go_ret
  exact ⟨_, rfl, rfl⟩
set_option maxHeartbeats 4000000 in
set_option maxRecDepth 100000 in
theorem pdq_nil (c : Nat) (l : Int) (F : Value) (w : World) : Calls Try.prog 53 #[.slice none 0 c, .int .i64 0, .int .i64 0, .int .i64 l, F] w fun e w' => e = .returned (.tuple #[]) ∧ w = w' := by
  go_enter Try.func53, Try.ntmps53
  go_wp2_with (fail)
  go_loop [1, 2] (fun v1 v2 => v1 = .int .i64 0 ∧ v2 = .int .i64 0) (fun _ _ => 0)
  case atStart => exact ⟨rfl, rfl⟩
  case round =>
    obtain ⟨rfl, rfl⟩ := hrel
    go_wp2_with (go_at_call 56; (with_reducible refine (ins_nil c F _).mono ?_); rintro e w' ⟨rfl, rfl⟩)
    refine bodyPost_ret (results_none rfl _ _ _) rfl ?_
    exact ⟨rfl, rfl⟩
set_option maxHeartbeats 4000000 in
theorem sort_nil (c : Nat) (F : Value) (w : World) : Calls Try.prog 48 #[.slice none 0 c, F] w fun e w' => e = .returned (.tuple #[]) ∧ w = w' := by
  go_enter Try.func48, Try.ntmps48
  go_wp2_with (first
    | (go_at_call 54; (with_reducible refine (len_zero _).mono ?_); rintro e w' ⟨l, rfl, rfl⟩)
    | (go_at_call 53; (with_reducible refine (pdq_nil c _ F _).mono ?_); rintro e w' ⟨rfl, rfl⟩))
  go_end0
  exact ⟨rfl, rfl⟩
theorem but_sort (w : World) (blk n : Nat) (d : Array (Int × Int)) (os : Array Obj) : ButS w (sortWorldK encR 2 w blk 0 n d os) (· = blk) := by
  refine ⟨rfl, rfl, rfl, ?_, fun j hj hne => ?_⟩
  · show w.heap.size ≤ ((w.heap.modify blk _) ++ os).size
    simp
  · show ((w.heap.modify blk _) ++ os)[j]? = _
    rw [Array.getElem?_append_left (by simpa using hj), Array.getElem?_modify]
    have : ¬ blk = j := fun e => hne e.symm
    simp [this]
theorem rq_holds {w : World} {blk : Nat} {d : Array (Int × Int)} (h : HoldsK encR 2 w blk 0 d) (hb : blk < w.heap.size) : Rq w w.heap.size (some ⟨blk, 0, none⟩) d.toList := fun _ => by
  refine ⟨blk, 0, rfl, hb, fun k hk => ?_⟩
  have hk' : k < d.size := by simpa using hk
  have hc : ∀ c, c < 2 → w.cell? ⟨blk, k * 2 + c, none⟩ = some ((encR d[k])[c]!) := by
    intro c hc
    have h1 := (h (k * 2 + c) (by rw [size_flatK]; omega)).1
    rw [get_flatK _ _ _ _ (by omega)] at h1
    have e1 : (k * 2 + c) / 2 = k := by omega
    have e2 : (k * 2 + c) % 2 = c := by omega
    rw [e1, e2, Nat.zero_add, getElem!_pos d k hk'] at h1
    exact h1
  have e : d.toList[k] = d[k] := by simp
  rw [e, Nat.zero_add]
  exact ⟨hc 0 (by omega), hc 1 (by omega)⟩
theorem holds_own {w : World} {base g n cap : Nat} {l : List (Int × Int)} (h : w.ownsRow base 46 2 (.slice (some ⟨g, 0, none⟩) n cap) n (rv l)) (hl : l.length = n) : HoldsK encR 2 w g 0 l.toArray := by
  intro t ht
  rw [size_flatK] at ht
  have ht' : t < l.length * 2 := by simpa using ht
  refine ⟨?_, by rw [Nat.zero_add]; exact h.frozenAt t⟩
  rw [Nat.zero_add, h.cellAt t (by omega), get_flatK _ _ _ _ ht]
  have hk : t / 2 < l.length := by omega
  have ha := rv_at l (t / 2) hk
  have eg : l.toArray[t / 2]! = l[t / 2] := by rw [getElem!_pos l.toArray (t / 2) (by simpa using hk)]; simp
  rw [eg]
  rcases Nat.mod_two_eq_zero_or_one t with e | e
  · have et : t = t / 2 * 2 := by omega
    conv => lhs; rw [et]
    rw [ha.1, e]; rfl
  · have et : t = t / 2 * 2 + 1 := by omega
    conv => lhs; rw [et]
    rw [ha.2, e]; rfl
theorem sort_own (w : World) (base g n cap : Nat) (ls : List (Int × Int)) (h : w.ownsRow base 46 2 (.slice (some ⟨g, 0, none⟩) n cap) n (rv ls)) (hl : ls.length = n) (hn : n ≤ 1000000) :
    Calls Try.prog 48 #[.slice (some ⟨g, 0, none⟩) n cap, .func (.func 49) #[] #[]] w fun e w' => e = .returned (.tuple #[]) ∧ ∃ ds : List (Int × Int), ds.Perm ls ∧ ds.Pairwise (fun a b => a.1 ≤ b.1) ∧ Rq w' w'.heap.size (some ⟨g, 0, none⟩) ds ∧ ButS w w' (· = g) := by
  have hg : g < w.heap.size := (h.lt g rfl).2
  have hH := holds_own h hl
  have hsz : ls.toArray.size = n := by simpa using hl
  have hso := sort_runs g cap ls.toArray w hH hg (by rw [hsz]; omega)
  rw [hsz] at hso
  refine hso.mono ?_
  rintro e w' ⟨rfl, d', q, os, hp, hs, rfl⟩
  have hds : d'.size = ls.toArray.size := by rw [hsz]; exact hp.1.trans hsz
  have hbs := but_sort w g q d' os
  have hER := rq_holds (holdsK_sortWorldK_c encR 2 w g 0 ls.toArray d' q os hH hg hds) (Nat.lt_of_lt_of_le hg hbs.size)
  refine ⟨rfl, d'.toList, ?_, ?_, hER, hbs⟩
  · obtain ⟨hsz2, _, hpm⟩ := hp
    have e1 : (d'.extract 0 n).toList = d'.toList := by rw [← hsz, ← hds]; simp
    have e2 : (ls.toArray.extract 0 n).toList = ls := by rw [← hsz]; simp
    rw [e1, e2] at hpm
    exact hpm
  · rw [List.pairwise_iff_getElem]
    intro i j hi hj hij
    have hi' : i < d'.size := by simpa using hi
    have hj' : j < d'.size := by simpa using hj
    have := hs i j (Nat.zero_le _) hij (by omega)
    rw [getElem!_pos d' j hj', getElem!_pos d' i hi', cf_nlt] at this
    simp only [Array.getElem_toList]
    omega
end Go.Proofs.Ytejboemifncjoaa
