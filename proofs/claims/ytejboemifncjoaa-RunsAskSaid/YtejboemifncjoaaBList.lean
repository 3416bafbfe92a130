
/- Lists of 16-bit numbers in memory; the document's New, List, Steps, At, Same; the text walked. -/
import Derived.Test.YtejboemifncjoaaBRef
import Derived.Maps.AppendAt
import Derived.Deep.AppendLies
import Derived.RegionTactic
namespace Go.Proofs.Ytejboemifncjoaa
open Go.RowKit
abbrev hv (xs : List Int) : List Value := xs.map (Value.int .u16)
/-- The slice at A reads as the list xs of 16-bit numbers, in cells below block B. -/
def Rh (w : World) (B : Nat) (A : Option Addr) (xs : List Int) : Prop :=
  xs ≠ [] → ∃ b off, A = some ⟨b, off, none⟩ ∧ b < B ∧ ∀ (k : Nat) (h : k < xs.length), w.cell? ⟨b, off + k, none⟩ = some (.int .u16 xs[k])
theorem Rh.nil (w : World) (B : Nat) (A : Option Addr) : Rh w B A [] := fun h => absurd rfl h
theorem Rh.below {w w' : World} {B B' : Nat} {A : Option Addr} {xs : List Int} (h : Rh w B A xs) (hb : Below B' w w') (hB : B ≤ B') : Rh w' B A xs := fun hne => by
  obtain ⟨b, off, rfl, hlt, hc⟩ := h hne
  exact ⟨b, off, rfl, hlt, fun k hk => (hb.cell (p := ⟨b, off + k, none⟩) (by show b < B'; omega)).trans (hc k hk)⟩
theorem Rh.more {w : World} {B B' : Nat} {A : Option Addr} {xs : List Int} (h : Rh w B A xs) (hB : B ≤ B') : Rh w B' A xs := fun hne => by
  obtain ⟨b, off, rfl, hlt, hc⟩ := h hne
  exact ⟨b, off, rfl, by omega, hc⟩
theorem Rh.drew {w : World} {B : Nat} {A : Option Addr} {xs : List Int} (h : Rh w B A xs) (n : Nat) : Rh (w.drewN n) B A xs := h
theorem Rh.at {w : World} {B : Nat} {A : Option Addr} {xs : List Int} (h : Rh w B A xs) {k : Nat} (hk : k < xs.length) : ∃ b off, A = some ⟨b, off, none⟩ ∧ b < B ∧ w.cell? ⟨b, off + k, none⟩ = some (.int .u16 xs[k]) := by
  obtain ⟨b, off, rfl, hlt, hc⟩ := h (by intro e; subst e; simp at hk)
  exact ⟨b, off, rfl, hlt, hc k hk⟩
theorem Rh.grown {w w' : World} {B g : Nat} {A : Option Addr} {xs : List Int} (h : Rh w B A xs) (hg : w.grownBy w' (some g)) (hB : B ≤ w.heap.size) (hne : ∀ ad, A = some ad → ad.block ≠ g) : Rh w' B A xs := fun he => by
  obtain ⟨b, off, rfl, hlt, hc⟩ := h he
  refine ⟨b, off, rfl, hlt, fun k hk => ?_⟩
  have hb := hg.block b (by omega) (by intro e; cases e; exact hne _ rfl rfl)
  have := hc k hk
  simp only [World.cell?, hb] at this ⊢
  exact this
theorem add_offB (g k : Nat) : (⟨g, 0, none⟩ : Addr).add k = ⟨g, k, none⟩ := by
  by_cases h : k = 0
  · subst h; rfl
  · simp [Addr.add, h]
theorem cell_oneB (w : World) (v : Value) (t : TypeId) (j : Nat) (u : Value) (h : [v][j]? = some u) : (w.alloc (.cells #[v] t)).cell? ((⟨w.heap.size, 0, none⟩ : Addr).add j) = some u := by
  match j, h with
  | 0, h =>
    rw [add_offB]
    simp at h
    subst h
    simp
theorem one_intB (k : IntKind) (n : Int) (u : Value) (h : u ∈ [Value.int k n]) : u.oneCell' = true := by
  simp at h; subst h; rfl
/-- No older block than n. -/
def Young (n : Nat) (A : Option Addr) : Prop := ∀ ad, A = some ad → n ≤ ad.block
theorem Rh.of_own {w : World} {base : Nat} {v : Value} {xs : List Int} (h : w.ownsRow base 31 1 v xs.length (hv xs)) : ∃ A c, v = .slice A xs.length c ∧ Rh w w.heap.size A xs ∧ Young base A := by
  rcases h.2 with ⟨rfl, hn⟩ | ⟨g, cap, cur, rfl, hb, hh, _⟩
  · have : xs = [] := by simpa using hn
    subst this
    exact ⟨none, 0, rfl, fun h => absurd rfl h, fun _ h => by cases h⟩
  · refine ⟨_, _, rfl, fun hne => ⟨g, 0, rfl, ?_, fun k hk => ?_⟩, fun _ e => by cases e; exact hb⟩
    · exact (h.lt g rfl).2
    · have := h.cells (g := g) rfl k (.int .u16 xs[k]) (by simp [hk])
      rw [add_offB] at this
      rw [Nat.zero_add]
      exact this
theorem own_cap {w : World} {base : Nat} {e : TypeId} {size n : Nat} {v : Value} {xs : List Value} (h : w.ownsRow base e size v n xs) : ∀ A c, v = .slice A n c → n ≤ c := by
  intro A c hv
  rcases h.2 with ⟨h1, h2⟩ | ⟨g, cap, cur, h1, _, _, hnc, _⟩
  · rw [h1] at hv; simp at hv; omega
  · rw [h1] at hv; simp at hv; omega
theorem u16_info : (Try.prog.info? 31).map (fun i => (i.zero, i.size, i.bytes)) = some (some (.int .u16 0), 1, 2) := by kernel_rfl
theorem own_snocH {w w0 w1 : World} {xs : List Int} {y : Int} {v v' : Value} {t : TypeId} (hb : Below w.heap.size w w0) (hown : w0.ownsRow w.heap.size 31 1 v xs.length (hv xs))
    (hown' : w1.ownsRow w.heap.size 31 1 v' (xs.length + 1) (hv xs ++ [.int .u16 y])) (hgrow : (w0.alloc (.cells #[.int .u16 y] t)).grownBy w1 v.ownBlock) :
    w1.ownsRow w.heap.size 31 1 v' (xs ++ [y]).length (hv (xs ++ [y])) ∧ Below w.heap.size w w1 :=
  ⟨by rw [hv, List.map_append, List.length_append]; exact hown', (hb.alloc hb.size _).grown hgrow (by have := hb.size; simp; omega) (fun g hg => (hown.lt g hg).1)⟩
set_option maxHeartbeats 1000000 in
theorem f_new (w : World) : Calls Try.prog 32 #[] w fun e w' => ∃ g n, e = .returned (.slice (some ⟨g, 0, none⟩) n n) ∧ Bs w' g n (List.replicate n false) ∧ w.grownBy w' none ∧ w.heap.size ≤ g := by
  obtain ⟨N, hN⟩ : ∃ N, N = 65536 := ⟨_, rfl⟩
  have hNi : (65536 : Int) = (N : Int) := by omega
  have hN1 : N ≤ 65536 := by omega
  have hNH := Lib.hid hN
  have hNiH := Lib.hid hNi
  clear hN hNi
  obtain ⟨ti, hi, hb, hz, hsz⟩ : ∃ ti, Try.prog.info? 4 = some ti ∧ ti.bytes = 1 ∧ ti.zero = some (.bool false) ∧ ti.size = 1 := ⟨_, rfl, rfl, rfl, rfl⟩
  have hbH := Lib.hid hb
  have hiH := Lib.hid hi
  have hzH := Lib.hid hz
  have hszH := Lib.hid hsz
  clear hb hi hz hsz
  go_enter Try.func32, Try.ntmps32
  go_wp2_with (refine wpList_make_full _ rfl _ _ 26 rfl w.heap.size 4 ti (.bool false) 1 (by kernel_rfl) hiH.out hzH.out hszH.out .i64 .i64 65536 65536 N rfl rfl hNiH.out hNiH.out (by rw [hbH.out]; omega) (by unfold maxLen; omega) (Nat.le_refl _) ?_; intro w1 hown hg)
  go_ret
  refine ⟨w.heap.size, N, rfl, ⟨?_, List.length_replicate, hNH.out⟩, hg, Nat.le_refl _⟩
  obtain ⟨cur, hh, hc⟩ : ∃ (cur : Array Value), w1.heap[w.heap.size]? = some (.cells cur 4 (0, 0)) ∧ cur = (bv (List.replicate N false)).toArray := by
    rcases hown.2 with ⟨hv, _⟩ | ⟨g, cap, cur, hv, hb, hh, hnc, hcm, hcs, ht⟩
    · simp at hv
    · simp only [Value.slice.injEq, Option.some.injEq, Addr.mk.injEq, true_and, and_true] at hv
      obtain ⟨rfl, rfl⟩ := hv
      refine ⟨cur, hh, ?_⟩
      have h1 : cur.toList.take (N * 1) = (madeCells (Value.bool false).cells (N * 1)).toList := ht
      have h2 : cur.size = N * 1 := hcs
      rw [List.take_of_length_le (by simp [h2])] at h1
      apply Array.toList_inj.1
      rw [h1, Nat.mul_one]
      exact congrArg Array.toList (made_false N)
  rw [hh, hc]
set_option maxHeartbeats 1000000 in
theorem f_listc (w : World) (g n : Nat) (bs : List Bool) (a : Bs w g n bs) :
    Calls Try.prog 30 #[.slice (some ⟨g, 0, none⟩) n n] w fun e w' => ∃ A c, e = .returned (.slice A (M.L bs).length c) ∧ Rh w' w'.heap.size A (M.L bs) ∧ Young w.heap.size A ∧ Below w.heap.size w w' ∧ (M.L bs).length ≤ c := by
  obtain ⟨i0, hi, hz0, hz1, hz2⟩ := info_parts u16_info
  have hn := a.top_le
  have hLen := Lib.hid a.len
  have ha := Lib.hid a
  clear a
  go_enter Try.func30, Try.ntmps30
  go_wp2
  go_loopw [3, 8] (fun v i wr => ∃ k : Nat, k ≤ n ∧ i = .int .i64 (k : Int) ∧ wr.ownsRow w.heap.size 31 1 v (M.L (bs.take k)).length (hv (M.L (bs.take k))) ∧ Below w.heap.size w wr)
    (fun _ i _ => n - (intOf i).toNat)
  case atStart => exact ⟨0, by omega, rfl, by simp [World.ownsRow_nil, M.L_nil], Below.refl _ _⟩
  case round =>
    obtain ⟨k, hk, rfl, hown, hb⟩ := hrel
    by_cases hlt : k < n
    · have hT2 : decide (k < n) = true := decide_eq_true hlt
      have hT3 : decide ((k : Int) < (n : Int)) = true := decide_eq_true (by omega)
      have hkl : k < bs.length := by rw [hLen.out]; exact hlt
      have hc := (ha.out.all_below hb).cell k hlt
      have hst := M.L_take hkl
      have hw16 : IntKind.u16.wrap (k : Int) = (k : Int) := by simp [IntKind.wrap, IntKind.signed, IntKind.bits]; omega
      have hlen := M.L_len_take bs k
      cases hbk : bs[k]
      · rw [hbk] at hc hst
        have hs : Hid (M.L (bs.take (k + 1)) = M.L (bs.take k)) := by simpa [Hid] using hst
        rw [← hs.out] at hown
        clear hbk hst hlen
        go_wp2
        go_roundw
        case rel => exact ⟨k + 1, by omega, by go_num, hown, hb⟩
        case measure => simp [intOf]; omega
      · rw [hbk] at hc hst
        have hs : Hid (M.L (bs.take (k + 1)) = M.L (bs.take k) ++ [(k : Int)]) := by simpa [Hid] using hst
        clear hbk hst
        generalize M.L (bs.take k) = ds at *
        go_wp2_with (at_builtin; refine wpList_append_own _ rfl _ _ 40 rfl w.heap.size 31 i0 (.int .u16 0) 1 2 Try.underlying40 hi hz0 hz1 hz2 rfl (by decide) _ _ _ rfl (hown.alloc _) ⟨wr.heap.size, 0, none⟩ 1 1 [.int .u16 (k : Int)] rfl rfl ?c1 ?c2 ?c3 ?c4 ?c5 ?_)
        case c1 => exact cell_oneB _ _ _
        case c2 => first | exact one_intB _ _ | rfl
        case c3 => unfold maxLen; omega
        case c4 => omega
        case c5 => have := hb.size; simp; omega
        intro v' w1 hown' hgrow _
        obtain ⟨hown2, hb2⟩ := own_snocH hb hown hown' hgrow
        rw [← hs.out] at hown2
        clear hown' hgrow hown hb
        go_wp2
        go_roundw
        case rel => exact ⟨k + 1, by omega, by go_num, hown2, hb2⟩
        case measure => simp [intOf]; omega
    · have hT2 : decide (k < n) = false := decide_eq_false hlt
      have hT3 : decide ((k : Int) < (n : Int)) = false := decide_eq_false (by omega)
      rw [M.L_all (by rw [hLen.out]; omega)] at hown
      have hcap := own_cap hown
      obtain ⟨A', c', rfl, hr', hF⟩ := Rh.of_own hown
      have HC := Lib.hid (hcap A' c' rfl)
      clear hcap
      go_wp2
      go_ret
      exact ⟨A', c', rfl, hr', hF, hb, HC.out⟩
theorem f_list (w : World) (g n : Nat) (bs : List Bool) (a : Bs w g n bs) :
    Calls Try.prog 30 #[.slice (some ⟨g, 0, none⟩) n n] w fun e w' => ∃ A c, e = .returned (.slice A (M.L bs).length c) ∧ Rh w' w'.heap.size A (M.L bs) ∧ Young w.heap.size A ∧ Below w.heap.size w w' :=
  (f_listc w g n bs a).mono fun _ _ ⟨A, c, h1, h2, h3, h4, _⟩ => ⟨A, c, h1, h2, h3, h4⟩
theorem f_at (w : World) (v : Int) (hv0 : 0 ≤ v) (hv : v ≤ 65535) (b : Bool) :
    Calls Try.prog 12 #[.int .u16 v, .bool b] w fun e w' => e = .returned (.int .i64 (if b then v else -1)) ∧ w = w' := by
  have w1 : IntKind.i64.wrap v = v := IntWalk.i64_in _ (by omega)
  cases b
  · go_enter Try.func12, Try.ntmps12
    go_wp2
    go_ret
    exact ⟨rfl, rfl⟩
  · go_enter Try.func12, Try.ntmps12
    go_wp2
    go_ret
    exact ⟨rfl, rfl⟩
end Go.Proofs.Ytejboemifncjoaa
