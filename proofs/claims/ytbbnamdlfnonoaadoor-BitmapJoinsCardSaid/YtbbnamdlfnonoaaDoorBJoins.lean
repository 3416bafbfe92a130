
/- The law BitmapJoins; the text walked. -/
import Derived.Test.YtbbnamdlfnonoaaDoorBJoin5
namespace Go.Proofs.YtbbnamdlfnonoaaDoor
open Go.RowKit Go.Shelf
/-- What stays: two bitmaps with the document's sets, and the first one's list. -/
structure KJ (w0 w : World) (p s h g n : Nat) (us : List Nat) (bs : List Bool) (p2 s2 h2 g2 n2 : Nat) (vs : List Nat) (cs : List Bool) (A : Option Addr) : Prop where
  a : BB w p s h g n us bs
  b : BB w p2 s2 h2 g2 n2 vs cs
  tab : Tab w
  low : Below w0.heap.size w0 w
  rd : Rh w w.heap.size A (sl us)
section
variable {w0 w w' : World} {p s h g n p2 s2 h2 g2 n2 : Nat} {us vs : List Nat} {bs cs : List Bool} {A : Option Addr}
theorem KJ.next (k : KJ w0 w p s h g n us bs p2 s2 h2 g2 n2 vs cs A) (hb : Below w.heap.size w w') : KJ w0 w' p s h g n us bs p2 s2 h2 g2 n2 vs cs A :=
  ⟨k.a.all_below hb, k.b.all_below hb, k.tab.below hb k.tab.pos, k.low.trans (hb.mono k.low.size), (k.rd.below hb (Nat.le_refl _)).more hb.size⟩
theorem KJ.drew (k : KJ w0 w p s h g n us bs p2 s2 h2 g2 n2 vs cs A) (m : Nat) : KJ w0 (w.drewN m) p s h g n us bs p2 s2 h2 g2 n2 vs cs A := k.next (below_drewN (Below.refl _ _) m)
theorem KJ.pa (k : KJ w0 w p s h g n us bs p2 s2 h2 g2 n2 vs cs A) : PB w (some ⟨p, 0, none⟩) us := .inr ⟨p, s, h, rfl, k.a.bm⟩
theorem KJ.pb (k : KJ w0 w p s h g n us bs p2 s2 h2 g2 n2 vs cs A) : PB w (some ⟨p2, 0, none⟩) vs := .inr ⟨p2, s2, h2, rfl, k.b.bm⟩
end
theorem rh_next {w w' : World} {A : Option Addr} {xs : List Int} (h : Rh w w.heap.size A xs) (hb : Below w.heap.size w w') : Rh w' w'.heap.size A xs := (h.below hb (Nat.le_refl _)).more hb.size
theorem two_or (W : World) (pa pb : Option Addr) (us vs : List Nat) (a : PB W pa us) (b : PB W pb vs) : Calls Tryd.prog 31 #[.slice (some ⟨W.heap.size, 0, none⟩) 2 2] (W.alloc (.cells #[.pointer pa, .pointer pb] 24)) (JQ W (List.zipWith (fun a b => a ||| b) us vs)) :=
  (list_or (W.alloc (.cells #[.pointer pa, .pointer pb] 24)) (some ⟨W.heap.size, 0, none⟩) 2 [pa, pb] [us, vs] 2 rfl (rps_new W [pa, pb]) rfl (by simp) (by simp) (by simp) (fun k h h' => by
    have h2 : k < 2 := by simpa using h
    match k, h2 with
    | 0, _ => exact pb_alloc a _
    | 1, _ => exact pb_alloc b _)).mono fun _ _ h => jq_alloc h
theorem two_and (W : World) (pa pb : Option Addr) (us vs : List Nat) (a : PB W pa us) (b : PB W pb vs) : Calls Tryd.prog 33 #[.slice (some ⟨W.heap.size, 0, none⟩) 2 2] (W.alloc (.cells #[.pointer pa, .pointer pb] 24)) (JQ W (List.zipWith (fun a b => a &&& b) us vs)) :=
  (list_and (W.alloc (.cells #[.pointer pa, .pointer pb] 24)) (some ⟨W.heap.size, 0, none⟩) 2 [pa, pb] [us, vs] 2 rfl (rps_new W [pa, pb]) rfl (by simp) (by simp) (by simp) (fun k h h' => by
    have h2 : k < 2 := by simpa using h
    match k, h2 with
    | 0, _ => exact pb_alloc a _
    | 1, _ => exact pb_alloc b _)).mono fun _ _ h => jq_alloc h
theorem three_and (W : World) (pa pb pc : Option Addr) (us vs ts : List Nat) (a : PB W pa us) (b : PB W pb vs) (c : PB W pc ts) : Calls Tryd.prog 33 #[.slice (some ⟨W.heap.size, 0, none⟩) 3 3] (W.alloc (.cells #[.pointer pa, .pointer pb, .pointer pc] 24)) (JQ W (List.zipWith (fun a b => a &&& b) (List.zipWith (fun a b => a &&& b) us vs) ts)) :=
  (list_and (W.alloc (.cells #[.pointer pa, .pointer pb, .pointer pc] 24)) (some ⟨W.heap.size, 0, none⟩) 3 [pa, pb, pc] [us, vs, ts] 3 rfl (rps_new W [pa, pb, pc]) rfl (by simp) (by simp) (by simp) (fun k h h' => by
    have h2 : k < 3 := by simpa using h
    match k, h2 with
    | 0, _ => exact pb_alloc a _
    | 1, _ => exact pb_alloc b _
    | 2, _ => exact pb_alloc c _)).mono fun _ _ h => jq_alloc h
set_option maxRecDepth 100000 in
set_option maxHeartbeats 16000000 in
theorem law_joins (P P2 : Option Addr) (cp cp2 : Nat) (xs ys : List AcB) (v : Nat) (hv : v ≤ 65535) (w : World) (hT : Tab w) (hr : Rk w w.heap.size P xs) (hl : xs.length ≤ 9223372036854775807) (hr2 : Rk w w.heap.size P2 ys) (hl2 : ys.length ≤ 9223372036854775807) :
    Calls Tryd.prog 5 #[.slice P xs.length cp, .slice P2 ys.length cp2, .int .u16 (v : Int)] w fun e w' => e = .returned (.bool true) ∧ Below w.heap.size w w' := by
  have hrH := Lib.hid hr
  have hrH2 := Lib.hid hr2
  have hTH := Lib.hid hT
  clear hr hr2 hT
  obtain ⟨rs, hrs⟩ : ∃ rs : List Nat, List.replicate 1024 0 = rs := ⟨_, rfl⟩
  have hrl : rs.length = 1024 := by rw [← hrs, List.length_replicate]
  have HRS := Lib.hid (show sl rs = [] by rw [← hrs]; exact sl_noneJ 1024)
  have HPN : Hid (∀ W, PB W none rs) := fun W => .inl ⟨rfl, hrs.symm⟩
  have HNO : Hid (∀ W, Calls Tryd.prog 31 #[.slice none 0 0] W (JQ W rs)) := fun W => by rw [← hrs]; exact none_or W
  have HNA : Hid (∀ W, Calls Tryd.prog 33 #[.slice none 0 0] W (JQ W rs)) := fun W => by rw [← hrs]; exact none_and W
  have HRL := Lib.hid hrl
  clear hrs hrl
  go_enter Tryd.func5, Tryd.ntmps5
  go_wp2_with (go_at_call 8; (with_reducible refine (awake_any _ hTH.out).mono ?_); rintro e w1 ⟨rfl, hb1⟩; have hB1 := Lib.hid hb1; clear hb1)
  go_wp2_with (first
    | (go_at_call 9; (with_reducible refine (lay_any _ P cp xs (hrH.out.later hB1.out) hl).mono ?_); rintro e w2 ⟨p, s, h, g, n, us, bs, rfl, hbb, _, _, _, _, hb2⟩; have HA2 := Lib.hid hbb; have HB2 := Lib.hid (hB1.out.trans (hb2.mono hB1.out.size)); clear hbb hb2)
    | (go_at_call 9; (with_reducible refine (lay_any _ P2 cp2 ys (hrH2.out.later HB2.out) hl2).mono ?_); rintro e w3 ⟨p2, s2, h2, g2, n2, vs, cs, rfl, hbb3, _, _, _, _, hb3⟩; have HA3 := Lib.hid (HA2.out.all_below hb3); have HPA3 : Hid (PB w3 (some ⟨p, 0, none⟩) us) := (Or.inr ⟨p, s, h, rfl, HA3.out.bm⟩); have HBB3 := Lib.hid hbb3; have HB3 := Lib.hid (HB2.out.trans (hb3.mono HB2.out.size)); clear hbb3 hb3)
    | (go_at_call 26; (with_reducible refine (b_copy _ _ us HPA3.out).mono ?_); rintro e w4 ⟨p4, s4, h4, rfl, hm4, hb4, hp4, hs4, hh4⟩; have HM4 := Lib.hid hm4; have HB34 := Lib.hid hb4; clear hm4 hb4 hp4 hs4)
    | (go_at_call 27; (with_reducible refine (b_fill HM4.out v v hv hv).mono ?_); rintro e w5 ⟨n5, rfl, us5, _, hm5, hg5⟩; have HM5 := Lib.hid hm5; have HG5 := Lib.hid hg5; have HWP : Hid (Calls Tryd.prog 28 #[.pointer (some ⟨p4, 0, none⟩), .int .u16 0, .int .u16 9] w5 (BInt false w5 p4 s4 h4 us5 0 9)) := (b_wipe hm5 0 9 (by omega) (by omega)); clear hm5 hg5)
    | (go_at_call 28; (with_reducible refine HWP.out.mono ?_); rintro e w6 ⟨n6, rfl, us6, _, _, hg6⟩; have HG6 := Lib.hid hg6; clear hg6))
  have HB36 : Hid (Below w3.heap.size w3 w6) := by
    have z1 := HB34.out.size
    have z2 := HG5.out.size
    exact (HB34.out.trans (below_grown_atJ HG5.out z1 hh4)).trans (below_grown_atJ HG6.out (by omega) hh4)
  have HA6 := Lib.hid (HA3.out.all_below HB36.out)
  have HB6 := Lib.hid (HBB3.out.all_below HB36.out)
  have HW6 : Hid (Below w.heap.size w w6) := HB3.out.trans (HB36.out.mono HB3.out.size)
  have HT6 : Hid (Tab w6) := hTH.out.below HW6.out hTH.out.pos
  clear HB36 HG6 HG5 HWP HM5 HM4 HB34 HB3 HBB3 HPA3 HA3 HA2 HB2 hB1 hh4
  obtain ⟨zs, hzs⟩ : ∃ zs, sl us = zs := ⟨_, rfl⟩
  have HZS := Lib.hid hzs
  have hzl : zs.length ≤ 65536 := by rw [← hzs]; exact len_top HA6.out.bm
  have hlist : Hid (Calls Tryd.prog 10 #[.slice (some ⟨g, 0, none⟩) n n] w6 fun e w' => ∃ A c, e = .returned (.slice A zs.length c) ∧ KJ w w' p s h g n us bs p2 s2 h2 g2 n2 vs cs A) := by
    have h1 := f_list w6 g n bs HA6.out.rs
    rw [← HA6.out.same, hzs] at h1
    refine h1.mono fun e w' ⟨A, c, h1, h2, _, h4⟩ => ⟨A, c, h1, HA6.out.all_below h4, HB6.out.all_below h4, HT6.out.below h4 HT6.out.pos, HW6.out.trans (h4.mono HW6.out.size), by rw [hzs]; exact h2⟩
  clear hzs HA6 HB6 HT6 HW6
  go_wp2_with (go_at_call 10; (with_reducible refine hlist.out.mono ?_); rintro e w7 ⟨A5, c5, rfl, hk7⟩; have HK7 := Lib.hid hk7; clear hk7)
  go_wp2_with (first
    | (go_at_call 19; (with_reducible refine (n_next _ v hv).mono ?_); rintro e w' ⟨rfl, rfl⟩)
    | (go_at_call 21; (with_reducible refine (n_prev _ v hv).mono ?_); rintro e w' ⟨rfl, rfl⟩)
    | (go_at_call 25; (with_reducible refine (n_select _).mono ?_); rintro e w' ⟨rfl, rfl⟩)
    | (go_at_call 17; (with_reducible refine (n_has _ v hv).mono ?_); rintro e w' ⟨rfl, rfl⟩)
    | (go_at_call 29; (with_reducible refine (n_add _ v hv).mono ?_); rintro e w' ⟨rfl, rfl⟩)
    | (go_at_call 30; (with_reducible refine (n_drop _ v hv).mono ?_); rintro e w' ⟨rfl, rfl⟩)
    | (go_at_call 27; (with_reducible refine (n_fill _ v hv).mono ?_); rintro e w' ⟨rfl, rfl⟩)
    | (go_at_call 28; (with_reducible refine (n_wipe _ v hv).mono ?_); rintro e w' ⟨rfl, rfl⟩)
    | (go_at_call 13; (with_reducible refine (n_len _).mono ?_); rintro e w' ⟨rfl, rfl⟩)
    | (go_at_call 23; (with_reducible refine (n_rank _ v hv).mono ?_); rintro e w' ⟨rfl, rfl⟩)
    | (go_at_call 14; (with_reducible refine (n_runs _).mono ?_); rintro e w' ⟨rfl, rfl⟩))
  obtain ⟨KK, hKK⟩ : ∃ KK : World → Prop, KK = fun W => KJ w W p s h g n us bs p2 s2 h2 g2 n2 vs cs A5 := ⟨_, rfl⟩
  have hk : ∀ W, KK W → KJ w W p s h g n us bs p2 s2 h2 g2 n2 vs cs A5 := fun W h => by rw [hKK] at h; exact h
  have hk' : ∀ W, KJ w W p s h g n us bs p2 s2 h2 g2 n2 vs cs A5 → KK W := fun W h => by rw [hKK]; exact h
  have hnext : ∀ W W', KK W → Below W.heap.size W W' → KK W' := fun W W' h hb => hk' _ ((hk _ h).next hb)
  have K7 : Hid (KK w7) := hk' _ HK7.out
  have hlow : Hid (∀ W, KK W → Below w.heap.size w W) := fun W h => (hk _ h).low
  have hul : us.length = 1024 := HK7.out.a.bm.len
  have hvl : vs.length = 1024 := HK7.out.b.bm.len
  have hbl : bs.length = 65536 := by rw [HK7.out.a.rs.len]; exact HK7.out.a.rs.top
  have hcl : cs.length = 65536 := by rw [HK7.out.b.rs.len]; exact HK7.out.b.rs.top
  have hsa : sl us = M.L bs := HK7.out.a.same
  have hsb : sl vs = M.L cs := HK7.out.b.same
  obtain ⟨Mk, hMk⟩ : ∃ Mk : List Nat → World → Nat → Prop, Mk = fun js W q => ∃ s h, Bm W q s h js := ⟨_, rfl⟩
  have hmk : ∀ js W q, Mk js W q → ∃ s h, Bm W q s h js := fun js W q h => by rw [hMk] at h; exact h
  have hmk' : ∀ js W q s h, Bm W q s h js → Mk js W q := fun js W q s h hb => by rw [hMk]; exact ⟨s, h, hb⟩
  have hjq : ∀ (f0 : FuncId) args W W0 js, KK W → Calls Tryd.prog f0 args W0 (JQ W js) → Calls Tryd.prog f0 args W0 fun e w' => ∃ q, e = .returned (.pointer (some ⟨q, 0, none⟩)) ∧ KK w' ∧ Mk js w' q := fun f0 args W W0 js k h =>
    h.mono fun e w' ⟨q, s, h', h1, h2, h3, _⟩ => ⟨q, h1, hnext _ _ k h3, hmk' _ _ _ _ _ h2⟩
  have hallg : ∀ js ls, sl js = ls → ∀ W q, KK W → Mk js W q → Calls Tryd.prog 12 #[.pointer (some ⟨q, 0, none⟩), .int .i64 70000] W fun e w' => ∃ A c, e = .returned (.slice A ls.length c) ∧ KK w' ∧ Rh w' w'.heap.size A ls := fun js ls hls W q k hm => by
    obtain ⟨s', h', hb⟩ := hmk _ _ _ hm
    have h2 := all_bit W q s' h' js hb (hk _ k).tab 70000 70000 rfl (by decide) (by decide)
    rw [List.take_of_length_le (by have := len_top hb; omega), hls] at h2
    exact h2.mono fun e w' ⟨A, c, a1, a2, _, a4⟩ => ⟨A, c, a1, hnext _ _ k a4, a2⟩
  have hlistg : ∀ (ls : List Int) (jb : List Bool), M.L jb = ls → ∀ W A g' n', KK W → Rh W W.heap.size A ls → Bs W g' n' jb → Calls Tryd.prog 10 #[.slice (some ⟨g', 0, none⟩) n' n'] W fun e w' => ∃ A' c, e = .returned (.slice A' ls.length c) ∧ KK w' ∧ Rh w' w'.heap.size A ls ∧ Rh w' w'.heap.size A' ls := fun ls jb hj W A g' n' k hr hs => by
    have h1 := f_list W g' n' jb hs
    rw [hj] at h1
    exact h1.mono fun e w' ⟨A', c, a1, a2, _, a4⟩ => ⟨A', c, a1, hnext _ _ k a4, rh_next hr a4, a2⟩
  have hsameg : ∀ (ls : List Int), ls.length ≤ 65536 → ∀ W A c A' c', KK W → Rh W W.heap.size A ls → Rh W W.heap.size A' ls → Calls Tryd.prog 11 #[.slice A ls.length c, .slice A' ls.length c'] W fun e w' => e = .returned (.bool true) ∧ KK w' := fun ls hl W A c A' c' k h1 h2 => by
    have h3 := f_same A A' c c' ls ls W _ _ h1 h2 (by omega) (by omega)
    rw [decide_eq_true rfl] at h3
    exact h3.mono fun e w' ⟨a1, m, a2⟩ => ⟨a1, by rw [a2]; exact hnext _ _ k (below_drewN (Below.refl _ _) m)⟩
  have hleng : ∀ js W q, KK W → Mk js W q → Calls Tryd.prog 13 #[.pointer (some ⟨q, 0, none⟩)] W fun e w' => e = .returned (.int .i64 ((sl js).length : Nat)) ∧ KK w' := fun js W q k hm => by
    obtain ⟨s', h', hb⟩ := hmk _ _ _ hm
    exact (b_len hb).mono fun e w' ⟨a1, m, a2⟩ => ⟨a1, by rw [a2]; exact hnext _ _ k (below_drewN (Below.refl _ _) m)⟩
  have hlen0 : Hid (∀ W q, KK W → Mk rs W q → Calls Tryd.prog 13 #[.pointer (some ⟨q, 0, none⟩)] W fun e w' => e = .returned (.int .i64 0) ∧ KK w') := fun W q k hm => by
    have h1 := hleng rs W q k hm
    rw [HRS.out] at h1
    exact h1
  have hlenu : Hid (∀ W q, KK W → Mk us W q → Calls Tryd.prog 13 #[.pointer (some ⟨q, 0, none⟩)] W fun e w' => e = .returned (.int .i64 (zs.length : Nat)) ∧ KK w') := fun W q k hm => by
    have h1 := hleng us W q k hm
    rw [HZS.out] at h1
    exact h1
  have hallN : Hid (∀ W, KK W → Calls Tryd.prog 12 #[.pointer none, .int .i64 9] W fun e w' => ∃ A c, e = .returned (.slice A 0 c) ∧ KK w') := fun W k => by
    have h2 := all_bit_nil W 9 9 rfl (by decide) (by decide)
    exact h2.mono fun e w' ⟨A, c, a1, _, _, a4⟩ => ⟨A, c, a1, hnext _ _ k a4⟩
  have hcopyN : Hid (∀ W, KK W → Calls Tryd.prog 26 #[.pointer none] W fun e w' => ∃ q, e = .returned (.pointer (some ⟨q, 0, none⟩)) ∧ KK w' ∧ Mk rs w' q) := fun W k => hjq _ _ W W rs k (b_copy W none rs (HPN.out W))
  have hallA : Hid (∀ W, KK W → Calls Tryd.prog 12 #[.pointer (some ⟨p, 0, none⟩), .int .i64 70000] W fun e w' => ∃ A c, e = .returned (.slice A zs.length c) ∧ KK w' ∧ Rh w' w'.heap.size A zs) := fun W k => hallg us zs HZS.out W p k (hmk' _ _ _ _ _ (hk _ k).a.bm)
  have hsameA : Hid (∀ W A c, KK W → Rh W W.heap.size A zs → Calls Tryd.prog 11 #[.slice A zs.length c, .slice A5 zs.length c5] W fun e w' => e = .returned (.bool true) ∧ KK w') := fun W A c k h1 => by
    have h2 := (hk _ k).rd
    rw [HZS.out] at h2
    exact hsameg zs hzl W A c A5 c5 k h1 h2
  have hnoO : Hid (∀ W, KK W → Calls Tryd.prog 31 #[.slice none 0 0] W fun e w' => ∃ q, e = .returned (.pointer (some ⟨q, 0, none⟩)) ∧ KK w' ∧ Mk rs w' q) := fun W k => hjq _ _ W W rs k (HNO.out W)
  have hnoA : Hid (∀ W, KK W → Calls Tryd.prog 33 #[.slice none 0 0] W fun e w' => ∃ q, e = .returned (.pointer (some ⟨q, 0, none⟩)) ∧ KK w' ∧ Mk rs w' q) := fun W k => hjq _ _ W W rs k (HNA.out W)
  have horz : Hid (∀ W, KK W → Calls Tryd.prog 31 #[.slice (some ⟨W.heap.size, 0, none⟩) 2 2] (W.alloc (.cells #[.pointer (some ⟨p, 0, none⟩), .pointer none] 24)) fun e w' => ∃ q, e = .returned (.pointer (some ⟨q, 0, none⟩)) ∧ KK w' ∧ Mk us w' q) := fun W k => hjq _ _ W _ us k (by
    have h := two_or W _ _ us rs (hk _ k).pa (HPN.out W)
    have e : List.zipWith (fun a b => a ||| b) us rs = us := by
      rcases HPN.out W with ⟨_, e⟩ | ⟨_, _, _, e, _⟩
      · rw [e]; exact zip_or_zero us 1024 hul
      · cases e
    rwa [e] at h)
  have handz : Hid (∀ W, KK W → Calls Tryd.prog 33 #[.slice (some ⟨W.heap.size, 0, none⟩) 2 2] (W.alloc (.cells #[.pointer (some ⟨p, 0, none⟩), .pointer none] 24)) fun e w' => ∃ q, e = .returned (.pointer (some ⟨q, 0, none⟩)) ∧ KK w' ∧ Mk rs w' q) := fun W k => hjq _ _ W _ rs k (by
    have h := two_and W _ _ us rs (hk _ k).pa (HPN.out W)
    have e : List.zipWith (fun a b => a &&& b) us rs = rs := by
      rcases HPN.out W with ⟨_, e⟩ | ⟨_, _, _, e, _⟩
      · rw [e]; exact zip_and_zero us 1024 hul
      · cases e
    rwa [e] at h)
  obtain ⟨js0, hjs0⟩ : ∃ js, List.zipWith (fun a b => a ||| b) us vs = js := ⟨_, rfl⟩
  obtain ⟨jb0, hjb0⟩ : ∃ jb, List.zipWith (fun a b => a || b) bs cs = jb := ⟨_, rfl⟩
  obtain ⟨ls0, hls0⟩ : ∃ ls, M.L jb0 = ls := ⟨_, rfl⟩
  have hsl0 : sl js0 = ls0 := by rw [← hjs0, ← hls0, ← hjb0]; exact join_lists (fun a b => a ||| b) (fun a b => a || b) bit_or hul hvl hbl hcl hsa hsb
  have hzl0 : ls0.length ≤ 65536 := by
    rw [← hls0]
    refine Nat.le_trans (M.L_len jb0) ?_
    rw [← hjb0, List.length_zipWith, hbl, hcl]
    exact Nat.le_refl _
  have hmk0 : Hid (∀ W, KK W → Calls Tryd.prog 31 #[.slice (some ⟨W.heap.size, 0, none⟩) 2 2] (W.alloc (.cells #[.pointer (some ⟨p, 0, none⟩), .pointer (some ⟨p2, 0, none⟩)] 24)) fun e w' => ∃ q, e = .returned (.pointer (some ⟨q, 0, none⟩)) ∧ KK w' ∧ Mk js0 w' q) := fun W k => hjq _ _ W _ js0 k (by
    have k := hk _ k
    rw [← hjs0]
    exact two_or W _ _ us vs k.pa k.pb)
  have hall0 := Lib.hid (hallg js0 ls0 hsl0)
  have hjoin0 : Hid (∀ W A, KK W → Rh W W.heap.size A ls0 → Calls Tryd.prog 32 #[.slice (some ⟨g, 0, none⟩) n n, .slice (some ⟨g2, 0, none⟩) n2 n2, .int .i64 0] W fun e w' => ∃ g' n', e = .returned (.slice (some ⟨g', 0, none⟩) n' n') ∧ KK w' ∧ Rh w' w'.heap.size A ls0 ∧ Bs w' g' n' jb0) := fun W A k hr => by
    have h1 := f_join0 W g g2 n n2 bs cs (hk _ k).a.rs (hk _ k).b.rs
    rw [hjb0] at h1
    exact h1.mono fun e w' ⟨g', n', a1, a2, a3, _⟩ => ⟨g', n', a1, hnext _ _ k a3, rh_next hr a3, a2⟩
  have hlist0 := Lib.hid (hlistg ls0 jb0 hls0)
  have hsame0 := Lib.hid (hsameg ls0 hzl0)
  clear hjs0 hjb0 hls0 hsl0 hzl0
  obtain ⟨js1, hjs1⟩ : ∃ js, List.zipWith (fun a b => a &&& b) us vs = js := ⟨_, rfl⟩
  obtain ⟨jb1, hjb1⟩ : ∃ jb, List.zipWith (fun a b => a && b) bs cs = jb := ⟨_, rfl⟩
  obtain ⟨ls1, hls1⟩ : ∃ ls, M.L jb1 = ls := ⟨_, rfl⟩
  have hsl1 : sl js1 = ls1 := by rw [← hjs1, ← hls1, ← hjb1]; exact join_lists (fun a b => a &&& b) (fun a b => a && b) bit_and hul hvl hbl hcl hsa hsb
  have hzl1 : ls1.length ≤ 65536 := by
    rw [← hls1]
    refine Nat.le_trans (M.L_len jb1) ?_
    rw [← hjb1, List.length_zipWith, hbl, hcl]
    exact Nat.le_refl _
  have hmk1 : Hid (∀ W, KK W → Calls Tryd.prog 33 #[.slice (some ⟨W.heap.size, 0, none⟩) 3 3] (W.alloc (.cells #[.pointer (some ⟨p, 0, none⟩), .pointer (some ⟨p2, 0, none⟩), .pointer (some ⟨p, 0, none⟩)] 24)) fun e w' => ∃ q, e = .returned (.pointer (some ⟨q, 0, none⟩)) ∧ KK w' ∧ Mk js1 w' q) := fun W k => hjq _ _ W _ js1 k (by
    have k := hk _ k
    rw [← hjs1]
    exact (by have h := three_and W _ _ _ us vs us k.pa k.pb k.pa; rwa [zip_and_and] at h))
  have hall1 := Lib.hid (hallg js1 ls1 hsl1)
  have hjoin1 : Hid (∀ W A, KK W → Rh W W.heap.size A ls1 → Calls Tryd.prog 32 #[.slice (some ⟨g, 0, none⟩) n n, .slice (some ⟨g2, 0, none⟩) n2 n2, .int .i64 1] W fun e w' => ∃ g' n', e = .returned (.slice (some ⟨g', 0, none⟩) n' n') ∧ KK w' ∧ Rh w' w'.heap.size A ls1 ∧ Bs w' g' n' jb1) := fun W A k hr => by
    have h1 := f_join1 W g g2 n n2 bs cs (hk _ k).a.rs (hk _ k).b.rs
    rw [hjb1] at h1
    exact h1.mono fun e w' ⟨g', n', a1, a2, a3, _⟩ => ⟨g', n', a1, hnext _ _ k a3, rh_next hr a3, a2⟩
  have hlist1 := Lib.hid (hlistg ls1 jb1 hls1)
  have hsame1 := Lib.hid (hsameg ls1 hzl1)
  clear hjs1 hjb1 hls1 hsl1 hzl1
  obtain ⟨js2, hjs2⟩ : ∃ js, List.zipWith (fl) us vs = js := ⟨_, rfl⟩
  obtain ⟨jb2, hjb2⟩ : ∃ jb, List.zipWith (fun a b => a && !b) bs cs = jb := ⟨_, rfl⟩
  obtain ⟨ls2, hls2⟩ : ∃ ls, M.L jb2 = ls := ⟨_, rfl⟩
  have hsl2 : sl js2 = ls2 := by rw [← hjs2, ← hls2, ← hjb2]; exact join_lists (fl) (fun a b => a && !b) (fun a b i h => fl_bit a b i h) hul hvl hbl hcl hsa hsb
  have hzl2 : ls2.length ≤ 65536 := by
    rw [← hls2]
    refine Nat.le_trans (M.L_len jb2) ?_
    rw [← hjb2, List.length_zipWith, hbl, hcl]
    exact Nat.le_refl _
  have hmk2 : Hid (∀ W, KK W → Calls Tryd.prog 34 #[.pointer (some ⟨p, 0, none⟩), .pointer (some ⟨p2, 0, none⟩)] W fun e w' => ∃ q, e = .returned (.pointer (some ⟨q, 0, none⟩)) ∧ KK w' ∧ Mk js2 w' q) := fun W k => hjq _ _ W _ js2 k (by
    have k := hk _ k
    rw [← hjs2]
    exact b_less W _ _ us vs k.pa k.pb)
  have hall2 := Lib.hid (hallg js2 ls2 hsl2)
  have hjoin2 : Hid (∀ W A, KK W → Rh W W.heap.size A ls2 → Calls Tryd.prog 32 #[.slice (some ⟨g, 0, none⟩) n n, .slice (some ⟨g2, 0, none⟩) n2 n2, .int .i64 2] W fun e w' => ∃ g' n', e = .returned (.slice (some ⟨g', 0, none⟩) n' n') ∧ KK w' ∧ Rh w' w'.heap.size A ls2 ∧ Bs w' g' n' jb2) := fun W A k hr => by
    have h1 := f_join2 W g g2 n n2 bs cs (hk _ k).a.rs (hk _ k).b.rs
    rw [hjb2] at h1
    exact h1.mono fun e w' ⟨g', n', a1, a2, a3, _⟩ => ⟨g', n', a1, hnext _ _ k a3, rh_next hr a3, a2⟩
  have hlist2 := Lib.hid (hlistg ls2 jb2 hls2)
  have hsame2 := Lib.hid (hsameg ls2 hzl2)
  clear hjs2 hjb2 hls2 hsl2 hzl2
  obtain ⟨js3, hjs3⟩ : ∃ js, List.zipWith (fun a b => a ^^^ b) us vs = js := ⟨_, rfl⟩
  obtain ⟨jb3, hjb3⟩ : ∃ jb, List.zipWith (fun a b => a != b) bs cs = jb := ⟨_, rfl⟩
  obtain ⟨ls3, hls3⟩ : ∃ ls, M.L jb3 = ls := ⟨_, rfl⟩
  have hsl3 : sl js3 = ls3 := by rw [← hjs3, ← hls3, ← hjb3]; exact join_lists (fun a b => a ^^^ b) (fun a b => a != b) bit_xor hul hvl hbl hcl hsa hsb
  have hzl3 : ls3.length ≤ 65536 := by
    rw [← hls3]
    refine Nat.le_trans (M.L_len jb3) ?_
    rw [← hjb3, List.length_zipWith, hbl, hcl]
    exact Nat.le_refl _
  have hmk3 : Hid (∀ W, KK W → Calls Tryd.prog 35 #[.pointer (some ⟨p, 0, none⟩), .pointer (some ⟨p2, 0, none⟩)] W fun e w' => ∃ q, e = .returned (.pointer (some ⟨q, 0, none⟩)) ∧ KK w' ∧ Mk js3 w' q) := fun W k => hjq _ _ W _ js3 k (by
    have k := hk _ k
    rw [← hjs3]
    exact b_xor W _ _ us vs k.pa k.pb)
  have hall3 := Lib.hid (hallg js3 ls3 hsl3)
  have hjoin3 : Hid (∀ W A, KK W → Rh W W.heap.size A ls3 → Calls Tryd.prog 32 #[.slice (some ⟨g, 0, none⟩) n n, .slice (some ⟨g2, 0, none⟩) n2 n2, .int .i64 3] W fun e w' => ∃ g' n', e = .returned (.slice (some ⟨g', 0, none⟩) n' n') ∧ KK w' ∧ Rh w' w'.heap.size A ls3 ∧ Bs w' g' n' jb3) := fun W A k hr => by
    have h1 := f_join3 W g g2 n n2 bs cs (hk _ k).a.rs (hk _ k).b.rs
    rw [hjb3] at h1
    exact h1.mono fun e w' ⟨g', n', a1, a2, a3, _⟩ => ⟨g', n', a1, hnext _ _ k a3, rh_next hr a3, a2⟩
  have hlist3 := Lib.hid (hlistg ls3 jb3 hls3)
  have hsame3 := Lib.hid (hsameg ls3 hzl3)
  clear hjs3 hjb3 hls3 hsl3 hzl3
  clear hul hvl hbl hcl hsa hsb hMk hmk hmk' hjq hallg hlistg hsameg hleng hKK hk hk' hnext HK7 hzl
  go_wp2_with (first
    | (go_at_call 12; (with_reducible refine (hallN.out _ K7.out).mono ?_); rintro e w8 ⟨A8, c8, rfl, k8⟩; have K8 := Lib.hid k8; clear k8)
    | (go_at_call 26; (with_reducible refine (hcopyN.out _ K8.out).mono ?_); rintro e w9 ⟨q9, rfl, k9, m9⟩; have K9 := Lib.hid k9; clear k9; have M9 := Lib.hid m9; clear m9)
    | (go_at_call 13; (with_reducible refine (hlen0.out _ _ K9.out M9.out).mono ?_); rintro e w10 ⟨rfl, k10⟩; have K10 := Lib.hid k10; clear k10)
    | (go_at_call 12; (with_reducible refine (hallA.out _ K10.out).mono ?_); rintro e w11 ⟨A11, c11, rfl, k11, r11⟩; have K11 := Lib.hid k11; clear k11; have R11 := Lib.hid r11; clear r11)
    | (go_at_call 11; (with_reducible refine (hsameA.out _ _ _ K11.out R11.out).mono ?_); rintro e w12 ⟨rfl, k12⟩; have K12 := Lib.hid k12; clear k12)
    | (go_at_call 31; (with_reducible refine (hmk0.out _ K12.out).mono ?_); rintro e w13 ⟨q13, rfl, k13, m13⟩; have K13 := Lib.hid k13; clear k13; have M13 := Lib.hid m13; clear m13)
    | (go_at_call 12; (with_reducible refine (hall0.out _ _ K13.out M13.out).mono ?_); rintro e w14 ⟨A14, c14, rfl, k14, r14⟩; have K14 := Lib.hid k14; clear k14; have R14 := Lib.hid r14; clear r14)
    | (go_at_call 32; (with_reducible refine (hjoin0.out _ _ K14.out R14.out).mono ?_); rintro e w15 ⟨g15, n15, rfl, k15, r15, b15⟩; have K15 := Lib.hid k15; clear k15; have R15 := Lib.hid r15; have B15 := Lib.hid b15; clear r15 b15)
    | (go_at_call 10; (with_reducible refine (hlist0.out _ _ _ _ K15.out R15.out B15.out).mono ?_); rintro e w16 ⟨A16, c16, rfl, k16, r16, t16⟩; have K16 := Lib.hid k16; clear k16; have R16 := Lib.hid r16; have T16 := Lib.hid t16; clear r16 t16)
    | (go_at_call 11; (with_reducible refine (hsame0.out _ _ _ _ _ K16.out R16.out T16.out).mono ?_); rintro e w17 ⟨rfl, k17⟩; have K17 := Lib.hid k17; clear k17)
    | (go_at_call 33; (with_reducible refine (hmk1.out _ K17.out).mono ?_); rintro e w18 ⟨q18, rfl, k18, m18⟩; have K18 := Lib.hid k18; clear k18; have M18 := Lib.hid m18; clear m18)
    | (go_at_call 12; (with_reducible refine (hall1.out _ _ K18.out M18.out).mono ?_); rintro e w19 ⟨A19, c19, rfl, k19, r19⟩; have K19 := Lib.hid k19; clear k19; have R19 := Lib.hid r19; clear r19)
    | (go_at_call 32; (with_reducible refine (hjoin1.out _ _ K19.out R19.out).mono ?_); rintro e w20 ⟨g20, n20, rfl, k20, r20, b20⟩; have K20 := Lib.hid k20; clear k20; have R20 := Lib.hid r20; have B20 := Lib.hid b20; clear r20 b20)
    | (go_at_call 10; (with_reducible refine (hlist1.out _ _ _ _ K20.out R20.out B20.out).mono ?_); rintro e w21 ⟨A21, c21, rfl, k21, r21, t21⟩; have K21 := Lib.hid k21; clear k21; have R21 := Lib.hid r21; have T21 := Lib.hid t21; clear r21 t21)
    | (go_at_call 11; (with_reducible refine (hsame1.out _ _ _ _ _ K21.out R21.out T21.out).mono ?_); rintro e w22 ⟨rfl, k22⟩; have K22 := Lib.hid k22; clear k22)
    | (go_at_call 34; (with_reducible refine (hmk2.out _ K22.out).mono ?_); rintro e w23 ⟨q23, rfl, k23, m23⟩; have K23 := Lib.hid k23; clear k23; have M23 := Lib.hid m23; clear m23)
    | (go_at_call 12; (with_reducible refine (hall2.out _ _ K23.out M23.out).mono ?_); rintro e w24 ⟨A24, c24, rfl, k24, r24⟩; have K24 := Lib.hid k24; clear k24; have R24 := Lib.hid r24; clear r24)
    | (go_at_call 32; (with_reducible refine (hjoin2.out _ _ K24.out R24.out).mono ?_); rintro e w25 ⟨g25, n25, rfl, k25, r25, b25⟩; have K25 := Lib.hid k25; clear k25; have R25 := Lib.hid r25; have B25 := Lib.hid b25; clear r25 b25)
    | (go_at_call 10; (with_reducible refine (hlist2.out _ _ _ _ K25.out R25.out B25.out).mono ?_); rintro e w26 ⟨A26, c26, rfl, k26, r26, t26⟩; have K26 := Lib.hid k26; clear k26; have R26 := Lib.hid r26; have T26 := Lib.hid t26; clear r26 t26)
    | (go_at_call 11; (with_reducible refine (hsame2.out _ _ _ _ _ K26.out R26.out T26.out).mono ?_); rintro e w27 ⟨rfl, k27⟩; have K27 := Lib.hid k27; clear k27)
    | (go_at_call 35; (with_reducible refine (hmk3.out _ K27.out).mono ?_); rintro e w28 ⟨q28, rfl, k28, m28⟩; have K28 := Lib.hid k28; clear k28; have M28 := Lib.hid m28; clear m28)
    | (go_at_call 12; (with_reducible refine (hall3.out _ _ K28.out M28.out).mono ?_); rintro e w29 ⟨A29, c29, rfl, k29, r29⟩; have K29 := Lib.hid k29; clear k29; have R29 := Lib.hid r29; clear r29)
    | (go_at_call 32; (with_reducible refine (hjoin3.out _ _ K29.out R29.out).mono ?_); rintro e w30 ⟨g30, n30, rfl, k30, r30, b30⟩; have K30 := Lib.hid k30; clear k30; have R30 := Lib.hid r30; have B30 := Lib.hid b30; clear r30 b30)
    | (go_at_call 10; (with_reducible refine (hlist3.out _ _ _ _ K30.out R30.out B30.out).mono ?_); rintro e w31 ⟨A31, c31, rfl, k31, r31, t31⟩; have K31 := Lib.hid k31; clear k31; have R31 := Lib.hid r31; have T31 := Lib.hid t31; clear r31 t31)
    | (go_at_call 11; (with_reducible refine (hsame3.out _ _ _ _ _ K31.out R31.out T31.out).mono ?_); rintro e w32 ⟨rfl, k32⟩; have K32 := Lib.hid k32; clear k32)
    | (go_at_call 31; (with_reducible refine (hnoO.out _ K32.out).mono ?_); rintro e w33 ⟨q33, rfl, k33, m33⟩; have K33 := Lib.hid k33; clear k33; have M33 := Lib.hid m33; clear m33)
    | (go_at_call 13; (with_reducible refine (hlen0.out _ _ K33.out M33.out).mono ?_); rintro e w34 ⟨rfl, k34⟩; have K34 := Lib.hid k34; clear k34)
    | (go_at_call 33; (with_reducible refine (hnoA.out _ K34.out).mono ?_); rintro e w35 ⟨q35, rfl, k35, m35⟩; have K35 := Lib.hid k35; clear k35; have M35 := Lib.hid m35; clear m35)
    | (go_at_call 13; (with_reducible refine (hlen0.out _ _ K35.out M35.out).mono ?_); rintro e w36 ⟨rfl, k36⟩; have K36 := Lib.hid k36; clear k36)
    | (go_at_call 31; (with_reducible refine (horz.out _ K36.out).mono ?_); rintro e w37 ⟨q37, rfl, k37, m37⟩; have K37 := Lib.hid k37; clear k37; have M37 := Lib.hid m37; clear m37)
    | (go_at_call 13; (with_reducible refine (hlenu.out _ _ K37.out M37.out).mono ?_); rintro e w38 ⟨rfl, k38⟩; have K38 := Lib.hid k38; clear k38)
    | (go_at_call 33; (with_reducible refine (handz.out _ K38.out).mono ?_); rintro e w39 ⟨q39, rfl, k39, m39⟩; have K39 := Lib.hid k39; clear k39; have M39 := Lib.hid m39; clear m39)
    | (go_at_call 13; (with_reducible refine (hlen0.out _ _ K39.out M39.out).mono ?_); rintro e w40 ⟨rfl, k40⟩; have K40 := Lib.hid k40; clear k40))
  go_ret
  exact ⟨rfl, hlow.out _ K40.out⟩
end Go.Proofs.YtbbnamdlfnonoaaDoor
