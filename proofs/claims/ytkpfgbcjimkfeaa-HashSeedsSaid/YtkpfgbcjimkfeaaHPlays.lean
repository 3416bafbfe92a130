
/- The law HashPlays: every script; the text walked. -/
import Derived.Test.YtkpfgbcjimkfeaaHSame
import Derived.Deep.RegionHeld3
namespace Go.Proofs.Ytkpfgbcjimkfeaa
open Go.RowKit
theorem pow_and (q : Nat) (hq : q ≤ 40) (n : Nat) (hn : n = 2 ^ q) : bits .and .i64 (n : Int) ((n : Int) - 1) = 0 := by
  have h1 : 1 ≤ 2 ^ q := Nat.one_le_two_pow
  have h2 : (2 : Nat) ^ q ≤ 2 ^ 40 := Nat.pow_le_pow_right (by decide) hq
  have e : (n : Int) - 1 = ((2 ^ q - 1 : Nat) : Int) := by subst hn; omega
  rw [e, hn]
  have hx : 2 ^ q &&& (2 ^ q - 1) = 2 ^ q % 2 ^ q := Nat.and_two_pow_sub_one_eq_mod _ _
  rw [Nat.mod_self] at hx
  show IntKind.i64.wrap ((BitVec.ofInt 64 ((2 ^ q : Nat) : Int) &&& BitVec.ofInt 64 ((2 ^ q - 1 : Nat) : Int)).toNat : Int) = _
  have e2 : (BitVec.ofInt 64 ((2 ^ q : Nat) : Int) &&& BitVec.ofInt 64 ((2 ^ q - 1 : Nat) : Int)).toNat = 0 := by
    rw [BitVec.toNat_and]
    have a1 : (BitVec.ofInt 64 ((2 ^ q : Nat) : Int)).toNat = 2 ^ q := by
      generalize 2 ^ q = u at *
      simp; omega
    have a2 : (BitVec.ofInt 64 ((2 ^ q - 1 : Nat) : Int)).toNat = 2 ^ q - 1 := by
      generalize 2 ^ q - 1 = u at *
      simp; omega
    rw [a1, a2, hx]
  rw [e2]
  rfl
abbrev HAc := Nat × Nat × Nat × Nat
/-- A slice of acts, as it reads. -/
def Rq (w : World) (B : Nat) (A : Option Addr) (xs : List HAc) : Prop :=
  (∀ x ∈ xs, x.1 < 256 ∧ x.2.1 < 256 ∧ x.2.2.1 < 18446744073709551616 ∧ x.2.2.2 < 18446744073709551616) ∧ (xs ≠ [] → ∃ b off, A = some ⟨b, off, none⟩ ∧ b < B ∧ ∀ (k : Nat) (h : k < xs.length),
    w.cell? ⟨b, off + k * 4, none⟩ = some (.int .u8 (xs[k].1 : Nat)) ∧ w.cell? ⟨b, off + k * 4 + 1, none⟩ = some (.int .u8 (xs[k].2.1 : Nat)) ∧ w.cell? ⟨b, off + k * 4 + 2, none⟩ = some (.int .u64 (xs[k].2.2.1 : Nat)) ∧ w.cell? ⟨b, off + k * 4 + 3, none⟩ = some (.int .u64 (xs[k].2.2.2 : Nat)))
theorem Rq.below {w w' : World} {B B' : Nat} {A : Option Addr} {xs : List HAc} (h : Rq w B A xs) (hb : Below B' w w') (hB : B ≤ B') : Rq w' B A xs := ⟨h.1, fun hne => by
  obtain ⟨b, off, rfl, hlt, hc⟩ := h.2 hne
  refine ⟨b, off, rfl, hlt, fun k hk => ?_⟩
  obtain ⟨c0, c1, c2, c3⟩ := hc k hk
  have hl := Nat.lt_of_lt_of_le hlt hB
  exact ⟨(hb.cell (p := ⟨b, _, none⟩) hl).trans c0, (hb.cell (p := ⟨b, _, none⟩) hl).trans c1, (hb.cell (p := ⟨b, _, none⟩) hl).trans c2, (hb.cell (p := ⟨b, _, none⟩) hl).trans c3⟩⟩
theorem Rq.at_ {w : World} {B : Nat} {A : Option Addr} {xs : List HAc} (h : Rq w B A xs) {k : Nat} (hk : k < xs.length) : ∃ b off, A = some ⟨b, off, none⟩ ∧ b < B ∧ (xs[k].1 < 256 ∧ xs[k].2.1 < 256 ∧ xs[k].2.2.1 < 18446744073709551616 ∧ xs[k].2.2.2 < 18446744073709551616) ∧
    w.cell? ⟨b, off + k * 4, none⟩ = some (.int .u8 (xs[k].1 : Nat)) ∧ w.cell? ⟨b, off + k * 4 + 1, none⟩ = some (.int .u8 (xs[k].2.1 : Nat)) ∧ w.cell? ⟨b, off + k * 4 + 2, none⟩ = some (.int .u64 (xs[k].2.2.1 : Nat)) ∧ w.cell? ⟨b, off + k * 4 + 3, none⟩ = some (.int .u64 (xs[k].2.2.2 : Nat)) := by
  obtain ⟨b, off, rfl, hlt, hc⟩ := h.2 (fun e => by subst e; simp at hk)
  exact ⟨b, off, rfl, hlt, h.1 _ (List.getElem_mem hk), hc k hk⟩
section
variable {w w' : World} {P Q M seed n pr cl : Nat} {es : List (H.Key × Nat)} {v : Value}
theorem Tab.c0 (a : Tab w P Q M seed n es pr cl) : w.cell? ⟨P, 0, none⟩ = some (.pointer (some ⟨M, 0, none⟩)) := by
  obtain ⟨ps, t, p, h1, _⟩ := a
  exact h1.row.c0
theorem Tab.mt (a : Tab w P Q M seed n es pr cl) : ∃ t p, Mt w M 0 cl 0 t p := by
  obtain ⟨ps, t, p, h1, h2, h3, h4, h5, h6, h7, h8⟩ := a
  exact ⟨t, p, h7⟩
theorem Tab.pw (a : Tab w P Q M seed n es pr cl) : 8 ≤ n ∧ 2 * es.length ≤ n ∧ ∃ q, n = 2 ^ q ∧ q ≤ 40 := by
  obtain ⟨a1, a2, _, q, a4, _, a6⟩ := TX.facts (A := fun _ => True) ⟨Q, a, fun _ _ => trivial⟩
  exact ⟨a1, a2, q, a4, a6⟩
theorem HS.below (h : HS w P Q M seed n es pr cl v) (hb : Below w.heap.size w w') : HS w' P Q M seed n es pr cl v :=
  ⟨h.tab.but (ButS.of_below (S := fun _ => False) hb (Nat.le_refl _)) (fun _ _ h => h), h.lx.below hb, h.off, h.ris⟩
theorem LX.len_form (h : LX w v es) : ∃ A c, v = .slice A es.length c := by
  rcases h.form with ⟨rfl, rfl⟩ | ⟨g, c, rfl, _⟩
  · exact ⟨none, 0, rfl⟩
  · exact ⟨_, c, rfl⟩
theorem HS.all_ (h : HS w P Q M seed n es pr cl v) (hl : es.length ≤ 1000000) (m : Nat) (mi : Int) (hmi : mi = (m : Int)) (hm : 0 < m) (hm2 : m ≤ 1000000) :
    Calls Try.prog 12 #[.pointer (some ⟨P, 0, none⟩), .int .i64 mi] w fun e w' => ∃ v', e = .returned v' ∧ LX w' v' (es.take m) ∧ Below w.heap.size w w' := by
  subst hmi
  have h2 := all_law w (some ⟨P, 0, none⟩) (es.map mkE) m hm hm2 (by rw [List.length_map]; exact hl) (fun W hW => rising_tab W P Q M seed n pr cl es (h.tab.but (ButS.of_below hW (Nat.le_refl _) (S := fun _ => False)) (fun _ _ h => h)) h.ris hl)
  have e : (es.map mkE).map ekv = es := by
    rw [List.map_map]
    conv => rhs; rw [← List.map_id es]
    exact List.map_congr_left (fun x _ => ekv_mkE x)
  rw [e] at h2
  exact h2.mono fun e w' ⟨v', a1, a2, a3⟩ => ⟨v', a1, lx_of a2 rfl, a3⟩
theorem HS.calls_ (h : HS w P Q M seed n es pr cl v) : Calls Try.prog 13 #[.pointer (some ⟨M, 0, none⟩)] w fun e w' => e = .returned (.int .i64 (cl : Int)) ∧ w = w' := by
  obtain ⟨t, p, hm⟩ := h.tab.mt
  exact m_calls w M 0 cl 0 t p hm
end
theorem LX.take {w : World} {A : Option Addr} {c : Nat} {es : List (H.Key × Nat)} (h : LX w (.slice A es.length c) es) (k : Nat) : LX w (.slice A (es.take k).length c) (es.take k) := by
  rcases h.2 with ⟨e, hn⟩ | ⟨g, cap, cur, e, hb, hg, hnc, hm, hs, hx⟩
  · injection e with e1 e2 e3
    have : es = [] := List.eq_nil_of_length_eq_zero e2
    subst this
    subst e1 e3
    rw [List.take_nil]
    exact World.ownsRow_nil _ _ _ _
  · injection e with e1 e2 e3
    subst e1 e3
    have hl : (es.take k).length ≤ es.length := by rw [List.length_take]; omega
    refine ⟨by rw [xv_len], .inr ⟨g, c, cur, rfl, hb, hg, by omega, hm, hs, ?_⟩⟩
    have h1 : xv es = xv (es.take k) ++ xv (es.drop k) := by rw [← xv_append, List.take_append_drop]
    have h2 : (xv (es.take k)).length = (es.take k).length * 3 := xv_len _
    have h3 : cur.toList.take ((es.take k).length * 3) = (cur.toList.take (es.length * 3)).take ((es.take k).length * 3) := by rw [List.take_take, Nat.min_eq_left (by omega)]
    rw [h3, hx, h1, ← h2, List.take_left']
    rfl
theorem bel_nextH {w X w6 : World} (h : Below w.heap.size w X) (k : Below X.heap.size X w6) : Below w.heap.size w w6 := h.trans (k.mono h.size)
/-- What the loop keeps. -/
def HK (w0 w : World) (P M seed cl k : Nat) (v : Value) : Prop :=
  ∃ Q n pr es, HS w P Q M seed n es pr cl v ∧ es.length ≤ k ∧ (∀ j, TF P Q M j → w0.heap.size ≤ j) ∧ Below w0.heap.size w0 w
theorem HK.act {w0 w : World} {P M seed cl k : Nat} {v : Value} (h : HK w0 w P M seed cl k v) (hk : k ≤ 1000) (hcl : cl ≤ k) (o : Obj) (d l p x : Nat) (hd : d < 256) (l1 : l < 256) (p1 : p < 18446744073709551616) (x1 : x < 18446744073709551616) :
    Calls Try.prog 8 #[.pointer (some ⟨P, 0, none⟩), v, hactv d l p x] (w.alloc o) fun e w' => ∃ v', e = .returned (.tuple #[v', .bool true]) ∧ HK w0 w' P M seed (if d % 4 = 3 then cl + 1 else cl) (k + 1) v' ∧ w'.heap[w.heap.size]? = (w.alloc o).heap[w.heap.size]? := by
  obtain ⟨Q, n, pr, es, hs, hl, hlo, hb⟩ := h
  have ha : Below w.heap.size w (w.alloc o) := (Below.refl _ w).alloc (Nat.le_refl _) o
  have htf := hs.tab.tf_lt
  refine (law_do (w.alloc o) P Q M seed n pr cl es v (hs.below ha) (by omega) (by omega) d l p x hd l1 p1 x1).mono ?_
  rintro e w' ⟨Q', n', pr', v', rfl, h1, h2, h3, h4⟩
  have hlen := hdo_len es d (l, p) x
  have hsz : (w.alloc o).heap.size = w.heap.size + 1 := by simp
  have hbs := hb.size
  refine ⟨v', rfl, ⟨Q', n', pr', _, h1, by omega, fun j hj => ?_, (hb.trans (ha.mono hbs)).trans (h2.below (by omega) hlo)⟩, h2.block w.heap.size (by omega) (fun ht => by have := htf _ ht; omega)⟩
  rcases hj with h | h | h
  · exact hlo j (.inl h)
  · rcases h3 with h3 | h3
    · exact hlo j (.inr (.inl (h.trans h3)))
    · omega
  · exact hlo j (.inr (.inr h))
theorem HK.below {w0 w w' : World} {P M seed cl k : Nat} {v : Value} (h : HK w0 w P M seed cl k v) (hb : Below w.heap.size w w') : HK w0 w' P M seed cl k v := by
  obtain ⟨Q, n, pr, es, hs, hl, hlo, hb0⟩ := h
  exact ⟨Q, n, pr, es, hs.below hb, hl, hlo, hb0.trans (hb.mono hb0.size)⟩
/-- What the law asks behind an act. -/
theorem HK.asks {w0 w : World} {P M seed cl k : Nat} {v : Value} (h : HK w0 w P M seed cl k v) : ∃ A c L n q, v = .slice A L c ∧ L ≤ k ∧ 8 ≤ n ∧ 2 * L ≤ n ∧ n = 2 ^ q ∧ q ≤ 40 ∧
    Calls Try.prog 9 #[.pointer (some ⟨P, 0, none⟩)] w (fun e w' => e = .returned (.int .i64 (n : Int)) ∧ w = w') ∧
    Calls Try.prog 10 #[.pointer (some ⟨P, 0, none⟩)] w (fun e w' => e = .returned (.int .i64 (L : Int)) ∧ w = w') := by
  obtain ⟨Q, n, pr, es, hs, hl, hlo, hb⟩ := h
  obtain ⟨A, c, hv⟩ := hs.lx.len_form
  obtain ⟨f1, f2, q, f3, f4⟩ := hs.tab.pw
  exact ⟨A, c, es.length, n, q, hv, hl, f1, f2, f3, f4, tab_size w P Q M seed n pr cl es hs.tab, tab_len w P Q M seed n pr cl es hs.tab⟩
set_option maxRecDepth 100000 in
set_option maxHeartbeats 4000000 in
theorem law_plays (seed : Nat) (A : Option Addr) (cp : Nat) (xs : List HAc) (st : Nat) (hst : st < 256) (w : World) (hr : Rq w w.heap.size A xs) (hlen : xs.length ≤ 9223372036854775807) :
    Calls Try.prog 3 #[.int .u64 (seed : Int), .slice A xs.length cp, .int .u8 (st : Int)] w fun e w' => e = .returned (.bool true) ∧ Below w.heap.size w w' := by
  obtain ⟨len, hxl⟩ : ∃ len, xs.length = len := ⟨_, rfl⟩
  have HR := Lib.hid hr
  have HXL := Lib.hid hxl
  rw [hxl] at hlen
  rw [hxl]
  clear hr hxl
  go_enter Try.func3, Try.ntmps3
  go_wp2_with (first
    | (go_at_call 5; (with_reducible refine (awake_any _).mono ?_); rintro e w1 ⟨rfl, hb1⟩; have HB1 := Lib.hid hb1; clear hb1)
    | (go_at_call 6; (with_reducible refine (m_new _).mono ?_); rintro e w2 ⟨rfl, hm2, hb2⟩; have HM2 := Lib.hid hm2; have HB2 := Lib.hid hb2; clear hm2 hb2)
    | (go_at_call 7; (with_reducible refine (tab_new w2 seed w1.heap.size HM2.out).mono ?_); rintro e w3 ⟨P, Q, M, rfl, ht3, hb3, hp3, hq3, hm3⟩; have HT3 := Lib.hid ht3; have HB3 := Lib.hid hb3; clear ht3 hb3))
  have hM : M = w1.heap.size := by
    rcases hm3 with h | h
    · exact (Option.some.inj h).symm
    · cases h.1
  subst hM
  obtain ⟨M, hMe⟩ : ∃ M, w1.heap.size = M := ⟨_, rfl⟩
  have z1 := HB1.out.size
  have z2 := HB2.out.size
  have HK0 : Hid (HK w w3 P M seed 0 0 (.slice none 0 0)) := by
    rw [← hMe]
    refine ⟨Q, 8, 0, [], ⟨HT3.out, World.ownsRow_nil _ _ _ _, fun g e => by simp [Value.ownBlock] at e, List.Pairwise.nil⟩, by simp, fun j hj => ?_, (HB1.out.trans (HB2.out.mono z1)).trans (HB3.out.mono (by omega))⟩
    rcases hj with h | h | h <;> omega
  rw [hMe]
  clear HT3 HB3 HB2 HB1 HM2 hm3 hp3 hq3 z1 z2 hMe
  go_loopw [9, 10, 24] (fun v g u wr => ∃ k cl : Nat, k ≤ len ∧ k ≤ 120 ∧ cl ≤ k ∧ u = .int .i64 (k : Int) ∧ g = .int .i64 (cl : Int) ∧ Hid (HK w wr P M seed cl k v)) (fun _ _ u _ => len - (intOf u).toNat)
  case atStart => exact ⟨0, 0, by omega, by omega, by omega, rfl, rfl, HK0⟩
  case round =>
    obtain ⟨k, cl, hk, hk8, hcl, rfl, rfl, HPl⟩ := hrel
    clear HK0
    obtain ⟨v, hv⟩ : ∃ v, v = u9 := ⟨_, rfl⟩
    subst hv
    have hbw : Below w.heap.size w wr := by
      obtain ⟨_, _, _, _, _, _, _, hb⟩ := HPl.out
      exact hb
    by_cases hlt : k < len
    · have hT1 : decide ((k : Int) < (len : Int)) = true := decide_eq_true (by omega)
      have hT1' : decide (k < len) = true := decide_eq_true hlt
      obtain ⟨b, off, rfl, hb, ⟨x1, x2, x3, x4⟩, c0, c1, c2, c3⟩ := (HR.out.below hbw (Nat.le_refl _)).at_ (k := k) (by have := HXL.out; omega)
      have hik : (k : Int) < (len : Int) := by omega
      generalize xs[k]'(by have := HXL.out; omega) = x at *
      obtain ⟨d, l, p, y⟩ := x
      dsimp only at x1 x2 x3 x4 c0 c1 c2 c3
      have HPl2 : Hid (HK w (wr.alloc (hacto d l p y)) P M seed cl k v) := HPl.out.below ((Below.refl _ wr).alloc (Nat.le_refl _) _)
      clear hbw
      by_cases h120 : 120 ≤ k
      · have hT2 : decide ((120 : Int) ≤ (k : Int)) = true := decide_eq_true (by omega)
        have hT2' : decide (120 ≤ k) = true := decide_eq_true (by omega)
        obtain ⟨wq, hwq⟩ : ∃ wq, wr.alloc (hacto d l p y) = wq := ⟨_, rfl⟩
        rw [hwq] at HPl2
        have HWQ := Lib.hid hwq
        clear hwq HPl
        obtain ⟨Q5, n5, pr5, es, hs, hl, hlo, hb⟩ := HPl2.out
        have hlz : es.length ≤ 1000 := by omega
        have HS5 := Lib.hid hs
        have HB5 := Lib.hid hb
        have hS : Hid (∀ X, Below wq.heap.size wq X → HS X P Q5 M seed n5 es pr5 cl v) := fun X h => HS5.out.below h
        obtain ⟨z, hz⟩ : ∃ z, st % 5 = z := ⟨_, rfl⟩
        have hz5 : z < 5 := by omega
        have q1 : (st : Int) % 5 = (z : Int) := by omega
        have q2 : (st : Int).tmod 5 = (z : Int) := by rw [Int.tmod_eq_emod_of_nonneg (by omega)]; exact q1
        have q3 : IntKind.i64.wrap (z : Int) = (z : Int) := IntWalk.i64_in _ (by omega)
        obtain ⟨kk, hkk⟩ : ∃ kk : Nat, 1 + (z : Int) = (kk : Int) := ⟨1 + z, by omega⟩
        have hk1 : 0 < kk := by omega
        have hk6 : kk ≤ 5 := by omega
        have q4 : IntKind.i64.wrap (kk : Int) = (kk : Int) := IntWalk.i64_in _ (by omega)
        have q5 : IntKind.u8.wrap (z : Int) = (z : Int) := by simp [IntKind.wrap, IntKind.signed, IntKind.bits]; omega
        obtain ⟨mm, hmm⟩ : ∃ mm, (es.take kk).length = mm := ⟨_, rfl⟩
        have hmn : mm = min kk es.length := by rw [← hmm, List.length_take]
        have hall1 : Hid (∀ W, Below wq.heap.size wq W → Calls Try.prog 12 #[.pointer (some ⟨P, 0, none⟩), .int .i64 1000] W fun e w' => ∃ v', e = .returned v' ∧ LX w' v' es ∧ Below W.heap.size W w') := fun W h => by
          have h2 := (hS.out W h).all_ (by omega) 1000 1000 rfl (by decide) (by decide)
          rwa [List.take_of_length_le (by omega)] at h2
        have hall2 : Hid (∀ W, Below wq.heap.size wq W → Calls Try.prog 12 #[.pointer (some ⟨P, 0, none⟩), .int .i64 (kk : Int)] W fun e w' => ∃ v', e = .returned v' ∧ LX w' v' (es.take kk) ∧ Below W.heap.size W w') := fun W h => (hS.out W h).all_ (by omega) kk (kk : Int) rfl hk1 (by omega)
        have hsame1 : Hid (∀ W v', Below wq.heap.size wq W → LX W v' es → Calls Try.prog 11 #[v', v] W fun e w' => e = .returned (.bool true) ∧ ∃ n, w' = W.drewN n) := fun W v' h hx => h_same W v' v es hx (hS.out W h).lx (by omega)
        have hcal : Hid (∀ W, Below wq.heap.size wq W → Calls Try.prog 13 #[.pointer (some ⟨M, 0, none⟩)] W fun e w' => e = .returned (.int .i64 (cl : Int)) ∧ W = w') := fun W h => (hS.out W h).calls_
        have hc0 : Hid (∀ W, Below wq.heap.size wq W → W.cell? ⟨P, 0, none⟩ = some (.pointer (some ⟨M, 0, none⟩))) := fun W h => (hS.out W h).tab.c0
        rcases HS5.out.lx.form with ⟨rfl, hes⟩ | ⟨g5, c5, rfl, hc5, hg5, _⟩
        · have hm0 : mm = 0 := by rw [hmn, hes]; simp
          subst hm0
          have hsame2 : Hid (∀ W v', Below wq.heap.size wq W → LX W v' (es.take kk) → Calls Try.prog 11 #[v', .slice none 0 0] W fun e w' => e = .returned (.bool true) ∧ ∃ n, w' = W.drewN n) := fun W v' h hx => by
            have h1 : es.take kk = [] := by rw [hes, List.take_nil]
            rw [h1] at hx
            exact h_same W v' _ [] hx (World.ownsRow_nil _ _ _ _) (by simp)
          have hmi1 : min (0 : Int) (kk : Int) = 0 := by omega
          clear hes hs hb hl hlo hmm hmn
          go_wp2
          rw [HWQ.out]
          clear HWQ
          go_region_held3 (fun W => W.cell? ⟨P, 0, none⟩ = some (.pointer (some ⟨M, 0, none⟩))) (exact hc0.out _ (by first | exact Below.refl _ _ | exact below_drewN (Below.refl _ _) 1 | assumption)) (first
            | (go_at_call 12; (with_reducible refine (hall1.out _ ?_).mono ?_); (exact (by first | exact Below.refl _ _ | exact below_drewN (Below.refl _ _) 1 | assumption)); rintro e w6 ⟨v6, rfl, hx6, hb6⟩; have HX6 := Lib.hid hx6; have B6 := bel_nextH (w := wq) (by first | exact Below.refl _ _ | exact below_drewN (Below.refl _ _) 1 | assumption) hb6; clear hx6 hb6)
            | (go_at_call 11; (with_reducible refine (hsame1.out _ _ B6 HX6.out).mono ?_); rintro e w7 ⟨rfl, n7, rfl⟩; have B7 := below_drewN B6 n7)
            | (go_at_call 12; (with_reducible refine (hall2.out _ B7).mono ?_); rintro e w8 ⟨v8, rfl, hx8, hb8⟩; have HX8 := Lib.hid hx8; have B8 := bel_nextH (w := wq) B7 hb8; clear hx8 hb8)
            | (go_at_call 11; (with_reducible refine (hsame2.out _ _ B8 HX8.out).mono ?_); rintro e w9 ⟨rfl, n9, rfl⟩; have B9 := below_drewN B8 n9)
            | (go_at_call 13; (with_reducible refine (hcal.out _ B9).mono ?_); rintro e w10 ⟨rfl, rfl⟩))
          all_goals
            go_wp2
            go_ret
            exact ⟨rfl, bel_nextH HB5.out B9⟩
        · have hsame2 : Hid (∀ W v', Below wq.heap.size wq W → LX W v' (es.take kk) → Calls Try.prog 11 #[v', .slice (some ⟨g5, 0, none⟩) mm c5] W fun e w' => e = .returned (.bool true) ∧ ∃ n, w' = W.drewN n) := fun W v' h hx => by
            have h1 := (hS.out W h).lx.take kk
            rw [hmm] at h1
            exact h_same W v' _ (es.take kk) hx h1 (by rw [hmm]; omega)
          have hmi1 : min (es.length : Int) (kk : Int) = (mm : Int) := by omega
          have hmi2 : (mm : Int) ≤ (c5 : Int) := by omega
          have hmi3 : (0 : Int) ≤ (mm : Int) := by omega
          have hmi4 : mm ≤ c5 := by omega
          have HMM := Lib.hid hmm
          have HMN := Lib.hid hmn
          clear hs hb hl hlo hmm hmn
          go_wp2
          rw [HWQ.out]
          clear HWQ
          go_region_held3 (fun W => W.cell? ⟨P, 0, none⟩ = some (.pointer (some ⟨M, 0, none⟩))) (exact hc0.out _ (by first | exact Below.refl _ _ | exact below_drewN (Below.refl _ _) 1 | assumption)) (first
            | (go_at_call 12; (with_reducible refine (hall1.out _ ?_).mono ?_); (exact (by first | exact Below.refl _ _ | exact below_drewN (Below.refl _ _) 1 | assumption)); rintro e w6 ⟨v6, rfl, hx6, hb6⟩; have HX6 := Lib.hid hx6; have B6 := bel_nextH (w := wq) (by first | exact Below.refl _ _ | exact below_drewN (Below.refl _ _) 1 | assumption) hb6; clear hx6 hb6)
            | (go_at_call 11; (with_reducible refine (hsame1.out _ _ B6 HX6.out).mono ?_); rintro e w7 ⟨rfl, n7, rfl⟩; have B7 := below_drewN B6 n7)
            | (go_at_call 12; (with_reducible refine (hall2.out _ B7).mono ?_); rintro e w8 ⟨v8, rfl, hx8, hb8⟩; have HX8 := Lib.hid hx8; have B8 := bel_nextH (w := wq) B7 hb8; clear hx8 hb8)
            | (go_at_call 11; (with_reducible refine (hsame2.out _ _ B8 HX8.out).mono ?_); rintro e w9 ⟨rfl, n9, rfl⟩; have B9 := below_drewN B8 n9)
            | (go_at_call 13; (with_reducible refine (hcal.out _ B9).mono ?_); rintro e w10 ⟨rfl, rfl⟩))
          all_goals
            go_wp2
            go_ret
            exact ⟨rfl, bel_nextH HB5.out B9⟩
      · have hT2 : decide ((120 : Int) ≤ (k : Int)) = false := decide_eq_false (by omega)
        have hT2' : decide (120 ≤ k) = false := decide_eq_false (by omega)
        have hdo := Lib.hid (HPl.out.act (by omega) hcl (hacto d l p y) d l p y x1 x2 x3 x4)
        have hcw : IntKind.i64.wrap ((cl : Int) + 1) = (cl : Int) + 1 := IntWalk.i64_in _ (by omega)
        by_cases hd3 : d % 4 = 3
        · obtain ⟨e1, e2⟩ := mod4 d x1 3 hd3
          rw [if_pos hd3] at hdo
          clear hd3
          go_wp2_with (first
            | (go_at_call 8; (with_reducible refine hdo.out.mono ?_); rintro e w4 ⟨v4, rfl, h4, hbx⟩
               have hbx2 := hbx.trans (alloc_topI wr (hacto d l p y))
               have bc0 : w4.cell? ⟨wr.heap.size, 0, none⟩ = some (.int .u8 (d : Int)) := cell_of_row _ _ 0 _ _ (0, 0) hbx2
               clear hbx hbx2
               obtain ⟨A4, c4, L, n, q, rfl, f0, f1, f2, f3, f4, hsz, hln⟩ := h4.asks
               have H4 := Lib.hid h4
               have HSZ := Lib.hid hsz
               have HLN := Lib.hid hln
               have hand := pow_and q f4 n f3
               have hn2 : n ≤ 1099511627776 := f3 ▸ Nat.pow_le_pow_right (by decide) f4
               have u1 : decide ((n : Int) < 8) = false := decide_eq_false (by omega)
               have u2 : decide (n < 8) = false := decide_eq_false (by omega)
               have u3 : decide ((n : Int) < 2 * (L : Int)) = false := decide_eq_false (by omega)
               have u4 : decide (n < 2 * L) = false := decide_eq_false (by omega)
               have u5 : IntKind.i64.wrap (2 * (L : Int)) = 2 * (L : Int) := IntWalk.i64_in _ (by omega)
               have u6 : IntKind.i64.wrap ((n : Int) - 1) = (n : Int) - 1 := IntWalk.i64_in _ (by omega)
               have u7 : ((L : Int) != (L : Int)) = false := (by simp)
               clear h4 hsz hln f3)
            | (go_at_call 9; (with_reducible refine HSZ.out.mono ?_); rintro e w5 ⟨rfl, rfl⟩)
            | (go_at_call 10; (with_reducible refine HLN.out.mono ?_); rintro e w5 ⟨rfl, rfl⟩))
          exact ⟨⟨k + 1, cl + 1, by omega, by omega, by omega, by go_num, by go_num, H4⟩, by simp [intOf]; omega⟩
        · obtain ⟨z, hz⟩ : ∃ z, d % 4 = z := ⟨_, rfl⟩
          obtain ⟨e1, e2⟩ := mod4 d x1 z hz
          rw [if_neg hd3] at hdo
          have z1 : ((z : Int) == 3) = false := by simp; omega
          have z2 : (z == 3) = false := by simp; omega
          have z3 : ¬ (z = 3) := by omega
          have z4 : ¬ ((z : Int) = 3) := by omega
          clear hd3
          go_wp2_with (first
            | (go_at_call 8; (with_reducible refine hdo.out.mono ?_); rintro e w4 ⟨v4, rfl, h4, hbx⟩
               have hbx2 := hbx.trans (alloc_topI wr (hacto d l p y))
               have bc0 : w4.cell? ⟨wr.heap.size, 0, none⟩ = some (.int .u8 (d : Int)) := cell_of_row _ _ 0 _ _ (0, 0) hbx2
               clear hbx hbx2
               obtain ⟨A4, c4, L, n, q, rfl, f0, f1, f2, f3, f4, hsz, hln⟩ := h4.asks
               have H4 := Lib.hid h4
               have HSZ := Lib.hid hsz
               have HLN := Lib.hid hln
               have hand := pow_and q f4 n f3
               have hn2 : n ≤ 1099511627776 := f3 ▸ Nat.pow_le_pow_right (by decide) f4
               have u1 : decide ((n : Int) < 8) = false := decide_eq_false (by omega)
               have u2 : decide (n < 8) = false := decide_eq_false (by omega)
               have u3 : decide ((n : Int) < 2 * (L : Int)) = false := decide_eq_false (by omega)
               have u4 : decide (n < 2 * L) = false := decide_eq_false (by omega)
               have u5 : IntKind.i64.wrap (2 * (L : Int)) = 2 * (L : Int) := IntWalk.i64_in _ (by omega)
               have u6 : IntKind.i64.wrap ((n : Int) - 1) = (n : Int) - 1 := IntWalk.i64_in _ (by omega)
               have u7 : ((L : Int) != (L : Int)) = false := (by simp)
               clear h4 hsz hln f3)
            | (go_at_call 9; (with_reducible refine HSZ.out.mono ?_); rintro e w5 ⟨rfl, rfl⟩)
            | (go_at_call 10; (with_reducible refine HLN.out.mono ?_); rintro e w5 ⟨rfl, rfl⟩))
          exact ⟨⟨k + 1, cl, by omega, by omega, by omega, by go_num, rfl, H4⟩, by simp [intOf]; omega⟩
    · obtain rfl : k = len := by omega
      have hT1 : decide ((k : Int) < (k : Int)) = false := decide_eq_false (by omega)
      have hT1' : decide (k < k) = false := decide_eq_false (by omega)
      obtain ⟨Q5, n5, pr5, es, hs, hl, hlo, hb⟩ := HPl.out
      have hlz : es.length ≤ 1000 := by omega
      have HS5 := Lib.hid hs
      have HB5 := Lib.hid hb
      have hS : Hid (∀ X, Below wr.heap.size wr X → HS X P Q5 M seed n5 es pr5 cl v) := fun X h => HS5.out.below h
      obtain ⟨z, hz⟩ : ∃ z, st % 5 = z := ⟨_, rfl⟩
      have hz5 : z < 5 := by omega
      have q1 : (st : Int) % 5 = (z : Int) := by omega
      have q2 : (st : Int).tmod 5 = (z : Int) := by rw [Int.tmod_eq_emod_of_nonneg (by omega)]; exact q1
      have q3 : IntKind.i64.wrap (z : Int) = (z : Int) := IntWalk.i64_in _ (by omega)
      obtain ⟨kk, hkk⟩ : ∃ kk : Nat, 1 + (z : Int) = (kk : Int) := ⟨1 + z, by omega⟩
      have hk1 : 0 < kk := by omega
      have hk6 : kk ≤ 5 := by omega
      have q4 : IntKind.i64.wrap (kk : Int) = (kk : Int) := IntWalk.i64_in _ (by omega)
      have q5 : IntKind.u8.wrap (z : Int) = (z : Int) := by simp [IntKind.wrap, IntKind.signed, IntKind.bits]; omega
      obtain ⟨mm, hmm⟩ : ∃ mm, (es.take kk).length = mm := ⟨_, rfl⟩
      have hmn : mm = min kk es.length := by rw [← hmm, List.length_take]
      have hall1 : Hid (∀ W, Below wr.heap.size wr W → Calls Try.prog 12 #[.pointer (some ⟨P, 0, none⟩), .int .i64 1000] W fun e w' => ∃ v', e = .returned v' ∧ LX w' v' es ∧ Below W.heap.size W w') := fun W h => by
        have h2 := (hS.out W h).all_ (by omega) 1000 1000 rfl (by decide) (by decide)
        rwa [List.take_of_length_le (by omega)] at h2
      have hall2 : Hid (∀ W, Below wr.heap.size wr W → Calls Try.prog 12 #[.pointer (some ⟨P, 0, none⟩), .int .i64 (kk : Int)] W fun e w' => ∃ v', e = .returned v' ∧ LX w' v' (es.take kk) ∧ Below W.heap.size W w') := fun W h => (hS.out W h).all_ (by omega) kk (kk : Int) rfl hk1 (by omega)
      have hsame1 : Hid (∀ W v', Below wr.heap.size wr W → LX W v' es → Calls Try.prog 11 #[v', v] W fun e w' => e = .returned (.bool true) ∧ ∃ n, w' = W.drewN n) := fun W v' h hx => h_same W v' v es hx (hS.out W h).lx (by omega)
      have hcal : Hid (∀ W, Below wr.heap.size wr W → Calls Try.prog 13 #[.pointer (some ⟨M, 0, none⟩)] W fun e w' => e = .returned (.int .i64 (cl : Int)) ∧ W = w') := fun W h => (hS.out W h).calls_
      have hc0 : Hid (∀ W, Below wr.heap.size wr W → W.cell? ⟨P, 0, none⟩ = some (.pointer (some ⟨M, 0, none⟩))) := fun W h => (hS.out W h).tab.c0
      rcases HS5.out.lx.form with ⟨rfl, hes⟩ | ⟨g5, c5, rfl, hc5, hg5, _⟩
      · have hm0 : mm = 0 := by rw [hmn, hes]; simp
        subst hm0
        have hsame2 : Hid (∀ W v', Below wr.heap.size wr W → LX W v' (es.take kk) → Calls Try.prog 11 #[v', .slice none 0 0] W fun e w' => e = .returned (.bool true) ∧ ∃ n, w' = W.drewN n) := fun W v' h hx => by
          have h1 : es.take kk = [] := by rw [hes, List.take_nil]
          rw [h1] at hx
          exact h_same W v' _ [] hx (World.ownsRow_nil _ _ _ _) (by simp)
        have hmi1 : min (0 : Int) (kk : Int) = 0 := by omega
        clear hes hs hb hl hlo hmm hmn
        go_wp2
        go_region_held3 (fun W => W.cell? ⟨P, 0, none⟩ = some (.pointer (some ⟨M, 0, none⟩))) (exact hc0.out _ (by first | exact Below.refl _ _ | exact below_drewN (Below.refl _ _) 1 | assumption)) (first
          | (go_at_call 12; (with_reducible refine (hall1.out _ ?_).mono ?_); (exact (by first | exact Below.refl _ _ | exact below_drewN (Below.refl _ _) 1 | assumption)); rintro e w6 ⟨v6, rfl, hx6, hb6⟩; have HX6 := Lib.hid hx6; have B6 := bel_nextH (w := wr) (by first | exact Below.refl _ _ | exact below_drewN (Below.refl _ _) 1 | assumption) hb6; clear hx6 hb6)
          | (go_at_call 11; (with_reducible refine (hsame1.out _ _ B6 HX6.out).mono ?_); rintro e w7 ⟨rfl, n7, rfl⟩; have B7 := below_drewN B6 n7)
          | (go_at_call 12; (with_reducible refine (hall2.out _ B7).mono ?_); rintro e w8 ⟨v8, rfl, hx8, hb8⟩; have HX8 := Lib.hid hx8; have B8 := bel_nextH (w := wr) B7 hb8; clear hx8 hb8)
          | (go_at_call 11; (with_reducible refine (hsame2.out _ _ B8 HX8.out).mono ?_); rintro e w9 ⟨rfl, n9, rfl⟩; have B9 := below_drewN B8 n9)
          | (go_at_call 13; (with_reducible refine (hcal.out _ B9).mono ?_); rintro e w10 ⟨rfl, rfl⟩))
        all_goals
          go_wp2
          go_ret
          exact ⟨rfl, bel_nextH HB5.out B9⟩
      · have hsame2 : Hid (∀ W v', Below wr.heap.size wr W → LX W v' (es.take kk) → Calls Try.prog 11 #[v', .slice (some ⟨g5, 0, none⟩) mm c5] W fun e w' => e = .returned (.bool true) ∧ ∃ n, w' = W.drewN n) := fun W v' h hx => by
          have h1 := (hS.out W h).lx.take kk
          rw [hmm] at h1
          exact h_same W v' _ (es.take kk) hx h1 (by rw [hmm]; omega)
        have hmi1 : min (es.length : Int) (kk : Int) = (mm : Int) := by omega
        have hmi2 : (mm : Int) ≤ (c5 : Int) := by omega
        have hmi3 : (0 : Int) ≤ (mm : Int) := by omega
        have hmi4 : mm ≤ c5 := by omega
        have HMM := Lib.hid hmm
        have HMN := Lib.hid hmn
        clear hs hb hl hlo hmm hmn
        go_wp2
        go_region_held3 (fun W => W.cell? ⟨P, 0, none⟩ = some (.pointer (some ⟨M, 0, none⟩))) (exact hc0.out _ (by first | exact Below.refl _ _ | exact below_drewN (Below.refl _ _) 1 | assumption)) (first
          | (go_at_call 12; (with_reducible refine (hall1.out _ ?_).mono ?_); (exact (by first | exact Below.refl _ _ | exact below_drewN (Below.refl _ _) 1 | assumption)); rintro e w6 ⟨v6, rfl, hx6, hb6⟩; have HX6 := Lib.hid hx6; have B6 := bel_nextH (w := wr) (by first | exact Below.refl _ _ | exact below_drewN (Below.refl _ _) 1 | assumption) hb6; clear hx6 hb6)
          | (go_at_call 11; (with_reducible refine (hsame1.out _ _ B6 HX6.out).mono ?_); rintro e w7 ⟨rfl, n7, rfl⟩; have B7 := below_drewN B6 n7)
          | (go_at_call 12; (with_reducible refine (hall2.out _ B7).mono ?_); rintro e w8 ⟨v8, rfl, hx8, hb8⟩; have HX8 := Lib.hid hx8; have B8 := bel_nextH (w := wr) B7 hb8; clear hx8 hb8)
          | (go_at_call 11; (with_reducible refine (hsame2.out _ _ B8 HX8.out).mono ?_); rintro e w9 ⟨rfl, n9, rfl⟩; have B9 := below_drewN B8 n9)
          | (go_at_call 13; (with_reducible refine (hcal.out _ B9).mono ?_); rintro e w10 ⟨rfl, rfl⟩))
        all_goals
          go_wp2
          go_ret
          exact ⟨rfl, bel_nextH HB5.out B9⟩
end Go.Proofs.Ytkpfgbcjimkfeaa
