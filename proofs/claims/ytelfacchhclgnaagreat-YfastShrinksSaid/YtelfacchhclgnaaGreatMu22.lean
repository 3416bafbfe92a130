/- A bucket's node is changed by what one says of it; two are joined; the texts walked. -/
import Derived.Deep.RegionHeld3
import Derived.Test.YtelfacchhclgnaaGreatMu21
namespace Go.Proofs.YtelfacchhclgnaaGreat.Yp
set_option maxRecDepth 20000
open Go.RowKit
/-- What a node has beside its neighbors. -/
abbrev Kd := Nat × Option Addr × Nat × Nat
def mkn (k : Kd) (a b : Int) : Nd := ⟨k.1, k.2.1, k.2.2.1, k.2.2.2, a, b⟩
def Nd.key (x : Nd) : Kd := (x.rep, x.ksA, x.ksn, x.ksc)
theorem nd_res1 {fn : Func} {u : Tmp} (h : fn.results = #[.cell u 74]) (tmps : Array Value) (w : World) (g : Nat) (a b c d : Value) (hu : tmps.getD u undef = .pointer (some ⟨g, 0, none⟩))
    (hc : w.heap[g]? = some (.cells #[a, b, c, d] 74 (0, 0))) : (results fn tmps).run Tryz.prog w = .ok (.agg #[a, b, c, d]) w := by
  have hp' : tmps[u]?.getD undef = .pointer (some ⟨g, 0, none⟩) := by simpa using hu
  have hr := run_loadVar_row (P := Tryz.prog) w g 74 74 _ (0, 0) _ hc Tryz.underlying74 (by kernel_rfl) (by kernel_rfl)
  simp [results, h, hp', asAddr, hr]
theorem y_clos1 (w : World) (rep : Nat) (ksA : Option Addr) (ksn ksc : Nat) (ah be : Int) (B : Nat) (b : Int) (hb : w.cell? ⟨B, 0, none⟩ = some (.int .i64 b)) (hB : B < w.heap.size) :
    Calls Tryz.prog 127 #[ndv rep ksA ksn ksc ah be, .pointer (some ⟨B, 0, none⟩)] w fun e w' => e = .returned (ndv rep ksA ksn ksc ah b) ∧ Below w.heap.size w w' := by
  have hb2 : ((w.alloc (ndo rep ksA ksn ksc ah be)).alloc ndzo).cell? ⟨B, 0, none⟩ = some (.int .i64 b) := by
    rw [World.cell?_alloc_lt _ _ _ (by simp; omega), World.cell?_alloc_lt _ _ _ (by simpa using hB)]; exact hb
  go_enter Tryz.func127, Tryz.ntmps127
  go_wp2
  refine bodyPost_ret (nd_res1 rfl _ _ (w.heap.size + 1) _ _ _ _ rfl ?_) rfl ⟨rfl, ((Below.refl _ w).alloc (Nat.le_refl _) _).alloc (by simp) _⟩
  have := K.alloc_top (w.alloc (ndo rep ksA ksn ksc ah b)) (ndo rep ksA ksn ksc ah b)
  rw [World.size_alloc] at this
  exact this
theorem y_clos2 (w : World) (rep : Nat) (ksA : Option Addr) (ksn ksc : Nat) (ah be : Int) (B : Nat) (b : Int) (hb : w.cell? ⟨B, 0, none⟩ = some (.int .i64 b)) (hB : B < w.heap.size) :
    Calls Tryz.prog 128 #[ndv rep ksA ksn ksc ah be, .pointer (some ⟨B, 0, none⟩)] w fun e w' => e = .returned (ndv rep ksA ksn ksc b be) ∧ Below w.heap.size w w' := by
  have hb2 : ((w.alloc (ndo rep ksA ksn ksc ah be)).alloc ndzo).cell? ⟨B, 0, none⟩ = some (.int .i64 b) := by
    rw [World.cell?_alloc_lt _ _ _ (by simp; omega), World.cell?_alloc_lt _ _ _ (by simpa using hB)]; exact hb
  go_enter Tryz.func128, Tryz.ntmps128
  go_wp2
  refine bodyPost_ret (nd_res1 rfl _ _ (w.heap.size + 1) _ _ _ _ rfl ?_) rfl ⟨rfl, ((Below.refl _ w).alloc (Nat.le_refl _) _).alloc (by simp) _⟩
  have := K.alloc_top (w.alloc (ndo rep ksA ksn ksc b be)) (ndo rep ksA ksn ksc b be)
  rw [World.size_alloc] at this
  exact this
theorem y_clos3 (w : World) (rep : Nat) (ksA : Option Addr) (ksn ksc : Nat) (ah be : Int) (B : Nat) (A : Option Addr) (n c : Nat) (hb : w.cell? ⟨B, 0, none⟩ = some (.slice A n c)) (hB : B < w.heap.size) :
    Calls Tryz.prog 90 #[ndv rep ksA ksn ksc ah be, .pointer (some ⟨B, 0, none⟩)] w fun e w' => e = .returned (ndv rep A n c ah be) ∧ Below w.heap.size w w' := by
  have hb2 : ((w.alloc (ndo rep ksA ksn ksc ah be)).alloc ndzo).cell? ⟨B, 0, none⟩ = some (.slice A n c) := by
    rw [World.cell?_alloc_lt _ _ _ (by simp; omega), World.cell?_alloc_lt _ _ _ (by simpa using hB)]; exact hb
  go_enter Tryz.func90, Tryz.ntmps90
  go_wp2
  refine bodyPost_ret (nd_res1 rfl _ _ (w.heap.size + 1) _ _ _ _ rfl ?_) rfl ⟨rfl, ((Below.refl _ w).alloc (Nat.le_refl _) _).alloc (by simp) _⟩
  have := K.alloc_top (w.alloc (ndo rep A n c ah be)) (ndo rep A n c ah be)
  rw [World.size_alloc] at this
  exact this
section
variable (w : World) (P Q M lim cn cf : Nat) (An Af : Option Addr) (ns : List (Nd × Bool)) (fs : List Nat)
theorem y_change_no (h1 : w.cell? ⟨P, 3, none⟩ = some (.pointer (some ⟨Q, 0, none⟩))) (a : Qo w Q M lim An cn Af cf ns fs) (i : Int) (f : Value) (hi : lvq ns i = false) :
    Calls Tryz.prog 89 #[.pointer (some ⟨P, 0, none⟩), .int .i64 i, f] w fun e w' => e = .returned (.tuple #[]) ∧ Below w.heap.size w w' := by
  have hp := Lib.hid (q_peek_no w Q M lim cn cf An Af ns fs a i hi)
  clear a hi
  go_enter Tryz.func89, Tryz.ntmps89
  go_wp2_with (go_at_call 78; (with_reducible refine hp.out.mono ?_); rintro e w1 ⟨rfl, hb1⟩; have HB1 := Lib.hid hb1; clear hb1)
  go_end0
  exact ⟨rfl, (HB1.out).alloc HB1.out.size _⟩
set_option maxHeartbeats 2000000 in
theorem y_change1 (h1 : w.cell? ⟨P, 3, none⟩ = some (.pointer (some ⟨Q, 0, none⟩))) (hlt : P < w.heap.size) (hPQ : ¬ QB Q An Af P) (a : Qo w Q M lim An cn Af cf ns fs) (k : Nat) (hk : k < ns.length) (rep : Nat) (ksA : Option Addr) (ksn ksc : Nat) (ah be : Int) (hx : ns[k] = (⟨rep, ksA, ksn, ksc, ah, be⟩, true)) (B : Nat) (b : Int) (hB : w.cell? ⟨B, 0, none⟩ = some (.int .i64 b)) (hBl : B < w.heap.size) :
    Calls Tryz.prog 89 #[.pointer (some ⟨P, 0, none⟩), .int .i64 (k : Int), .func (.func 127) #[] #[.pointer (some ⟨B, 0, none⟩)]] w fun e w' => e = .returned (.tuple #[]) ∧ QStep w Q M lim An Af (ns.set k (⟨rep, ksA, ksn, ksc, ah, b⟩, true)) fs w' := by
  have ht : ns[k].2 = true := by rw [hx]
  have hp := q_peek_yes w Q M lim cn cf An Af ns fs a k hk ht
  rw [hx] at hp
  have hp : Hid (Calls _ _ _ _ (PeekP w (ndv rep ksA ksn ksc ah be) true)) := hp
  have hA := Lib.hid a
  have hBH := Lib.hid hB
  have hT := Lib.hid ht
  have hNP := Lib.hid hPQ
  have hmf : ∀ (fn : Fn) (first cap : Array Value) (w : World), (Instr.makeFunc fn first cap).run Tryz.prog w = .ok (.func fn first cap) w := fun _ _ _ _ => rfl
  clear a hB ht hx hPQ
  go_enter Tryz.func89, Tryz.ntmps89
  go_wp2_with (go_at_call 78; (with_reducible refine hp.out.mono ?_); rintro e w1 ⟨rfl, hb1⟩
               have hs1 := hb1.size
               have HB1 := Lib.hid hb1
               have hb2 : Below w.heap.size w (w1.alloc (ndo rep ksA ksn ksc ah be)).drew := below_drewN (hb1.alloc hs1 _) 1
               have hrow : (w1.alloc (ndo rep ksA ksn ksc ah be)).drew.heap[w1.heap.size]? = some (ndo rep ksA ksn ksc ah be) := K.alloc_top w1 (ndo rep ksA ksn ksc ah be)
               have hC0 : (w1.alloc (ndo rep ksA ksn ksc ah be)).drew.cell? ⟨P, 3, none⟩ = some (.pointer (some ⟨Q, 0, none⟩)) := (hb2.cell (p := ⟨P, 3, none⟩) hlt).trans h1
               have HS0 := Lib.hid (And.intro hC0 (nd_cells hrow))
               have HB0 := Lib.hid hb2
               have HCl := Lib.hid (y_clos1 (w1.alloc (ndo rep ksA ksn ksc ah be)).drew rep ksA ksn ksc ah be B b ((hb2.cell (p := ⟨B, 0, none⟩) hBl).trans hBH.out) (Nat.lt_of_lt_of_le hBl hb2.size))
               have hz : (w1.alloc (ndo rep ksA ksn ksc ah be)).drew.heap.size = w1.heap.size + 1 := by show (w1.heap.push _).size = _; simp
               have HZ := Lib.hid hz
               clear hb1 hb2 hrow hC0 hz)
  go_region_held3 (fun X => X.cell? ⟨P, 3, none⟩ = some (.pointer (some ⟨Q, 0, none⟩)) ∧ X.cell? ⟨w1.heap.size, 0, none⟩ = some (.int .u64 (rep : Int)) ∧ X.cell? ⟨w1.heap.size, 1, none⟩ = some (.slice ksA ksn ksc) ∧ X.cell? ⟨w1.heap.size, 2, none⟩ = some (.int .i64 ah) ∧ X.cell? ⟨w1.heap.size, 3, none⟩ = some (.int .i64 be)) (first | (with_reducible exact HS0.out) | (with_reducible exact HS3.out) | (with_reducible exact HS4.out) | go_keep) (first
    | (go_at_call 127; (with_reducible refine HCl.out.mono ?_); rintro e w3 ⟨rfl, hb3⟩
       have hs3 := hb3.size
       rw [HZ.out] at hs3
       have HB3 := Lib.hid hb3
       have HBw := Lib.hid (HB0.out.trans (hb3.mono HB0.out.size))
       have HS3 := Lib.hid (And.intro ((hb3.cell (p := ⟨P, 3, none⟩) (by rw [HZ.out]; show P < _; omega)).trans HS0.out.1) (And.intro ((hb3.cell (p := ⟨w1.heap.size, 0, none⟩) (by rw [HZ.out]; show w1.heap.size < _; omega)).trans HS0.out.2.1) (And.intro ((hb3.cell (p := ⟨w1.heap.size, 1, none⟩) (by rw [HZ.out]; show w1.heap.size < _; omega)).trans HS0.out.2.2.1) (And.intro ((hb3.cell (p := ⟨w1.heap.size, 2, none⟩) (by rw [HZ.out]; show w1.heap.size < _; omega)).trans HS0.out.2.2.2.1) ((hb3.cell (p := ⟨w1.heap.size, 3, none⟩) (by rw [HZ.out]; show w1.heap.size < _; omega)).trans HS0.out.2.2.2.2)))))
       clear hb3)
    | (go_at_call 124; (with_reducible refine (q_put w3 Q M lim cn cf An Af ns fs (hA.out.chg (K.Chg.of_below (O := fun _ => False) HBw.out) (fun _ _ h => h)) k hk hT.out rep ksA ksn ksc ah b _ rfl).mono ?_); rintro e w4 ⟨rfl, hq⟩
       have HQ := Lib.hid hq
       have HS4 : Hid (w4.cell? ⟨P, 3, none⟩ = some (.pointer (some ⟨Q, 0, none⟩)) ∧ w4.cell? ⟨w1.heap.size, 0, none⟩ = some (.int .u64 (rep : Int)) ∧ w4.cell? ⟨w1.heap.size, 1, none⟩ = some (.slice ksA ksn ksc) ∧ w4.cell? ⟨w1.heap.size, 2, none⟩ = some (.int .i64 ah) ∧ w4.cell? ⟨w1.heap.size, 3, none⟩ = some (.int .i64 be)) := by
         obtain ⟨_, _, _, _, _, hc, _⟩ := hq
         have hnq : ¬ QB Q An Af w1.heap.size := fun hj => by have := hA.out.qb hj; omega
         exact ⟨(hc.cell (by omega) hNP.out 3).trans HS3.out.1, (hc.cell (by omega) hnq 0).trans HS3.out.2.1, (hc.cell (by omega) hnq 1).trans HS3.out.2.2.1, (hc.cell (by omega) hnq 2).trans HS3.out.2.2.2.1, (hc.cell (by omega) hnq 3).trans HS3.out.2.2.2.2⟩
       clear hq))
  all_goals
    go_wp2
    go_end0
    exact ⟨rfl, HQ.out.from HBw.out⟩
set_option maxHeartbeats 2000000 in
theorem y_change2 (h1 : w.cell? ⟨P, 3, none⟩ = some (.pointer (some ⟨Q, 0, none⟩))) (hlt : P < w.heap.size) (hPQ : ¬ QB Q An Af P) (a : Qo w Q M lim An cn Af cf ns fs) (k : Nat) (hk : k < ns.length) (rep : Nat) (ksA : Option Addr) (ksn ksc : Nat) (ah be : Int) (hx : ns[k] = (⟨rep, ksA, ksn, ksc, ah, be⟩, true)) (B : Nat) (b : Int) (hB : w.cell? ⟨B, 0, none⟩ = some (.int .i64 b)) (hBl : B < w.heap.size) :
    Calls Tryz.prog 89 #[.pointer (some ⟨P, 0, none⟩), .int .i64 (k : Int), .func (.func 128) #[] #[.pointer (some ⟨B, 0, none⟩)]] w fun e w' => e = .returned (.tuple #[]) ∧ QStep w Q M lim An Af (ns.set k (⟨rep, ksA, ksn, ksc, b, be⟩, true)) fs w' := by
  have ht : ns[k].2 = true := by rw [hx]
  have hp := q_peek_yes w Q M lim cn cf An Af ns fs a k hk ht
  rw [hx] at hp
  have hp : Hid (Calls _ _ _ _ (PeekP w (ndv rep ksA ksn ksc ah be) true)) := hp
  have hA := Lib.hid a
  have hBH := Lib.hid hB
  have hT := Lib.hid ht
  have hNP := Lib.hid hPQ
  have hmf : ∀ (fn : Fn) (first cap : Array Value) (w : World), (Instr.makeFunc fn first cap).run Tryz.prog w = .ok (.func fn first cap) w := fun _ _ _ _ => rfl
  clear a hB ht hx hPQ
  go_enter Tryz.func89, Tryz.ntmps89
  go_wp2_with (go_at_call 78; (with_reducible refine hp.out.mono ?_); rintro e w1 ⟨rfl, hb1⟩
               have hs1 := hb1.size
               have HB1 := Lib.hid hb1
               have hb2 : Below w.heap.size w (w1.alloc (ndo rep ksA ksn ksc ah be)).drew := below_drewN (hb1.alloc hs1 _) 1
               have hrow : (w1.alloc (ndo rep ksA ksn ksc ah be)).drew.heap[w1.heap.size]? = some (ndo rep ksA ksn ksc ah be) := K.alloc_top w1 (ndo rep ksA ksn ksc ah be)
               have hC0 : (w1.alloc (ndo rep ksA ksn ksc ah be)).drew.cell? ⟨P, 3, none⟩ = some (.pointer (some ⟨Q, 0, none⟩)) := (hb2.cell (p := ⟨P, 3, none⟩) hlt).trans h1
               have HS0 := Lib.hid (And.intro hC0 (nd_cells hrow))
               have HB0 := Lib.hid hb2
               have HCl := Lib.hid (y_clos2 (w1.alloc (ndo rep ksA ksn ksc ah be)).drew rep ksA ksn ksc ah be B b ((hb2.cell (p := ⟨B, 0, none⟩) hBl).trans hBH.out) (Nat.lt_of_lt_of_le hBl hb2.size))
               have hz : (w1.alloc (ndo rep ksA ksn ksc ah be)).drew.heap.size = w1.heap.size + 1 := by show (w1.heap.push _).size = _; simp
               have HZ := Lib.hid hz
               clear hb1 hb2 hrow hC0 hz)
  go_region_held3 (fun X => X.cell? ⟨P, 3, none⟩ = some (.pointer (some ⟨Q, 0, none⟩)) ∧ X.cell? ⟨w1.heap.size, 0, none⟩ = some (.int .u64 (rep : Int)) ∧ X.cell? ⟨w1.heap.size, 1, none⟩ = some (.slice ksA ksn ksc) ∧ X.cell? ⟨w1.heap.size, 2, none⟩ = some (.int .i64 ah) ∧ X.cell? ⟨w1.heap.size, 3, none⟩ = some (.int .i64 be)) (first | (with_reducible exact HS0.out) | (with_reducible exact HS3.out) | (with_reducible exact HS4.out) | go_keep) (first
    | (go_at_call 128; (with_reducible refine HCl.out.mono ?_); rintro e w3 ⟨rfl, hb3⟩
       have hs3 := hb3.size
       rw [HZ.out] at hs3
       have HB3 := Lib.hid hb3
       have HBw := Lib.hid (HB0.out.trans (hb3.mono HB0.out.size))
       have HS3 := Lib.hid (And.intro ((hb3.cell (p := ⟨P, 3, none⟩) (by rw [HZ.out]; show P < _; omega)).trans HS0.out.1) (And.intro ((hb3.cell (p := ⟨w1.heap.size, 0, none⟩) (by rw [HZ.out]; show w1.heap.size < _; omega)).trans HS0.out.2.1) (And.intro ((hb3.cell (p := ⟨w1.heap.size, 1, none⟩) (by rw [HZ.out]; show w1.heap.size < _; omega)).trans HS0.out.2.2.1) (And.intro ((hb3.cell (p := ⟨w1.heap.size, 2, none⟩) (by rw [HZ.out]; show w1.heap.size < _; omega)).trans HS0.out.2.2.2.1) ((hb3.cell (p := ⟨w1.heap.size, 3, none⟩) (by rw [HZ.out]; show w1.heap.size < _; omega)).trans HS0.out.2.2.2.2)))))
       clear hb3)
    | (go_at_call 124; (with_reducible refine (q_put w3 Q M lim cn cf An Af ns fs (hA.out.chg (K.Chg.of_below (O := fun _ => False) HBw.out) (fun _ _ h => h)) k hk hT.out rep ksA ksn ksc b be _ rfl).mono ?_); rintro e w4 ⟨rfl, hq⟩
       have HQ := Lib.hid hq
       have HS4 : Hid (w4.cell? ⟨P, 3, none⟩ = some (.pointer (some ⟨Q, 0, none⟩)) ∧ w4.cell? ⟨w1.heap.size, 0, none⟩ = some (.int .u64 (rep : Int)) ∧ w4.cell? ⟨w1.heap.size, 1, none⟩ = some (.slice ksA ksn ksc) ∧ w4.cell? ⟨w1.heap.size, 2, none⟩ = some (.int .i64 ah) ∧ w4.cell? ⟨w1.heap.size, 3, none⟩ = some (.int .i64 be)) := by
         obtain ⟨_, _, _, _, _, hc, _⟩ := hq
         have hnq : ¬ QB Q An Af w1.heap.size := fun hj => by have := hA.out.qb hj; omega
         exact ⟨(hc.cell (by omega) hNP.out 3).trans HS3.out.1, (hc.cell (by omega) hnq 0).trans HS3.out.2.1, (hc.cell (by omega) hnq 1).trans HS3.out.2.2.1, (hc.cell (by omega) hnq 2).trans HS3.out.2.2.2.1, (hc.cell (by omega) hnq 3).trans HS3.out.2.2.2.2⟩
       clear hq))
  all_goals
    go_wp2
    go_end0
    exact ⟨rfl, HQ.out.from HBw.out⟩
set_option maxHeartbeats 2000000 in
theorem y_change3 (h1 : w.cell? ⟨P, 3, none⟩ = some (.pointer (some ⟨Q, 0, none⟩))) (hlt : P < w.heap.size) (hPQ : ¬ QB Q An Af P) (a : Qo w Q M lim An cn Af cf ns fs) (k : Nat) (hk : k < ns.length) (rep : Nat) (ksA : Option Addr) (ksn ksc : Nat) (ah be : Int) (hx : ns[k] = (⟨rep, ksA, ksn, ksc, ah, be⟩, true)) (B : Nat) (A : Option Addr) (n c : Nat) (hB : w.cell? ⟨B, 0, none⟩ = some (.slice A n c)) (hBl : B < w.heap.size) :
    Calls Tryz.prog 89 #[.pointer (some ⟨P, 0, none⟩), .int .i64 (k : Int), .func (.func 90) #[] #[.pointer (some ⟨B, 0, none⟩)]] w fun e w' => e = .returned (.tuple #[]) ∧ QStep w Q M lim An Af (ns.set k (⟨rep, A, n, c, ah, be⟩, true)) fs w' := by
  have ht : ns[k].2 = true := by rw [hx]
  have hp := q_peek_yes w Q M lim cn cf An Af ns fs a k hk ht
  rw [hx] at hp
  have hp : Hid (Calls _ _ _ _ (PeekP w (ndv rep ksA ksn ksc ah be) true)) := hp
  have hA := Lib.hid a
  have hBH := Lib.hid hB
  have hT := Lib.hid ht
  have hNP := Lib.hid hPQ
  have hmf : ∀ (fn : Fn) (first cap : Array Value) (w : World), (Instr.makeFunc fn first cap).run Tryz.prog w = .ok (.func fn first cap) w := fun _ _ _ _ => rfl
  clear a hB ht hx hPQ
  go_enter Tryz.func89, Tryz.ntmps89
  go_wp2_with (go_at_call 78; (with_reducible refine hp.out.mono ?_); rintro e w1 ⟨rfl, hb1⟩
               have hs1 := hb1.size
               have HB1 := Lib.hid hb1
               have hb2 : Below w.heap.size w (w1.alloc (ndo rep ksA ksn ksc ah be)).drew := below_drewN (hb1.alloc hs1 _) 1
               have hrow : (w1.alloc (ndo rep ksA ksn ksc ah be)).drew.heap[w1.heap.size]? = some (ndo rep ksA ksn ksc ah be) := K.alloc_top w1 (ndo rep ksA ksn ksc ah be)
               have hC0 : (w1.alloc (ndo rep ksA ksn ksc ah be)).drew.cell? ⟨P, 3, none⟩ = some (.pointer (some ⟨Q, 0, none⟩)) := (hb2.cell (p := ⟨P, 3, none⟩) hlt).trans h1
               have HS0 := Lib.hid (And.intro hC0 (nd_cells hrow))
               have HB0 := Lib.hid hb2
               have HCl := Lib.hid (y_clos3 (w1.alloc (ndo rep ksA ksn ksc ah be)).drew rep ksA ksn ksc ah be B A n c ((hb2.cell (p := ⟨B, 0, none⟩) hBl).trans hBH.out) (Nat.lt_of_lt_of_le hBl hb2.size))
               have hz : (w1.alloc (ndo rep ksA ksn ksc ah be)).drew.heap.size = w1.heap.size + 1 := by show (w1.heap.push _).size = _; simp
               have HZ := Lib.hid hz
               clear hb1 hb2 hrow hC0 hz)
  go_region_held3 (fun X => X.cell? ⟨P, 3, none⟩ = some (.pointer (some ⟨Q, 0, none⟩)) ∧ X.cell? ⟨w1.heap.size, 0, none⟩ = some (.int .u64 (rep : Int)) ∧ X.cell? ⟨w1.heap.size, 1, none⟩ = some (.slice ksA ksn ksc) ∧ X.cell? ⟨w1.heap.size, 2, none⟩ = some (.int .i64 ah) ∧ X.cell? ⟨w1.heap.size, 3, none⟩ = some (.int .i64 be)) (first | (with_reducible exact HS0.out) | (with_reducible exact HS3.out) | (with_reducible exact HS4.out) | go_keep) (first
    | (go_at_call 90; (with_reducible refine HCl.out.mono ?_); rintro e w3 ⟨rfl, hb3⟩
       have hs3 := hb3.size
       rw [HZ.out] at hs3
       have HB3 := Lib.hid hb3
       have HBw := Lib.hid (HB0.out.trans (hb3.mono HB0.out.size))
       have HS3 := Lib.hid (And.intro ((hb3.cell (p := ⟨P, 3, none⟩) (by rw [HZ.out]; show P < _; omega)).trans HS0.out.1) (And.intro ((hb3.cell (p := ⟨w1.heap.size, 0, none⟩) (by rw [HZ.out]; show w1.heap.size < _; omega)).trans HS0.out.2.1) (And.intro ((hb3.cell (p := ⟨w1.heap.size, 1, none⟩) (by rw [HZ.out]; show w1.heap.size < _; omega)).trans HS0.out.2.2.1) (And.intro ((hb3.cell (p := ⟨w1.heap.size, 2, none⟩) (by rw [HZ.out]; show w1.heap.size < _; omega)).trans HS0.out.2.2.2.1) ((hb3.cell (p := ⟨w1.heap.size, 3, none⟩) (by rw [HZ.out]; show w1.heap.size < _; omega)).trans HS0.out.2.2.2.2)))))
       clear hb3)
    | (go_at_call 124; (with_reducible refine (q_put w3 Q M lim cn cf An Af ns fs (hA.out.chg (K.Chg.of_below (O := fun _ => False) HBw.out) (fun _ _ h => h)) k hk hT.out rep A n c ah be _ rfl).mono ?_); rintro e w4 ⟨rfl, hq⟩
       have HQ := Lib.hid hq
       have HS4 : Hid (w4.cell? ⟨P, 3, none⟩ = some (.pointer (some ⟨Q, 0, none⟩)) ∧ w4.cell? ⟨w1.heap.size, 0, none⟩ = some (.int .u64 (rep : Int)) ∧ w4.cell? ⟨w1.heap.size, 1, none⟩ = some (.slice ksA ksn ksc) ∧ w4.cell? ⟨w1.heap.size, 2, none⟩ = some (.int .i64 ah) ∧ w4.cell? ⟨w1.heap.size, 3, none⟩ = some (.int .i64 be)) := by
         obtain ⟨_, _, _, _, _, hc, _⟩ := hq
         have hnq : ¬ QB Q An Af w1.heap.size := fun hj => by have := hA.out.qb hj; omega
         exact ⟨(hc.cell (by omega) hNP.out 3).trans HS3.out.1, (hc.cell (by omega) hnq 0).trans HS3.out.2.1, (hc.cell (by omega) hnq 1).trans HS3.out.2.2.1, (hc.cell (by omega) hnq 2).trans HS3.out.2.2.2.1, (hc.cell (by omega) hnq 3).trans HS3.out.2.2.2.2⟩
       clear hq))
  all_goals
    go_wp2
    go_end0
    exact ⟨rfl, HQ.out.from HBw.out⟩
end
def ndi (ns : List (Nd × Bool)) (i : Int) : Nd := ((ns[i.toNat]?).getD (Nd.z, true)).1
/-- The link i with another one behind it; or ahead of it. -/
def setb (ns : List (Nd × Bool)) (i b : Int) : List (Nd × Bool) := if lvq ns i then ns.set i.toNat (mkn (ndi ns i).key (ndi ns i).ahead b, true) else ns
def seta (ns : List (Nd × Bool)) (i a : Int) : List (Nd × Bool) := if lvq ns i then ns.set i.toNat (mkn (ndi ns i).key a (ndi ns i).behind, true) else ns
theorem lvq_form {ns : List (Nd × Bool)} {i : Int} (h : lvq ns i = true) : ∃ k : Nat, i = (k : Int) ∧ ∃ hk : k < ns.length, ns[k] = (ndi ns i, true) := by
  unfold lvq at h
  rw [Bool.and_eq_true, decide_eq_true_eq] at h
  obtain ⟨h0, h1⟩ := h
  refine ⟨i.toNat, by omega, ?_⟩
  rcases Nat.lt_or_ge i.toNat ns.length with hk | hk
  · rw [List.getElem?_eq_getElem hk] at h1
    simp at h1
    refine ⟨hk, ?_⟩
    unfold ndi
    rw [List.getElem?_eq_getElem hk]
    simp only [Option.getD_some]
    rw [← h1]
  · rw [List.getElem?_eq_none hk] at h1
    simp at h1
theorem lvq_set {ns : List (Nd × Bool)} {k : Nat} (hk : k < ns.length) (ht : ns[k].2 = true) (y : Nd) (i : Int) : lvq (ns.set k (y, true)) i = lvq ns i := by
  unfold lvq
  congr 1
  rw [List.getElem?_set]
  split
  · rename_i e
    rw [← e, List.getElem?_eq_getElem hk]
    simp [ht]
  · rfl
theorem lvq_setb (ns : List (Nd × Bool)) (i b j : Int) : lvq (setb ns i b) j = lvq ns j := by
  unfold setb
  split
  · rename_i h
    obtain ⟨k, rfl, hk, e⟩ := lvq_form h
    exact lvq_set hk (by rw [e]) _ _
  · rfl
theorem lvq_seta (ns : List (Nd × Bool)) (i b j : Int) : lvq (seta ns i b) j = lvq ns j := by
  unfold seta
  split
  · rename_i h
    obtain ⟨k, rfl, hk, e⟩ := lvq_form h
    exact lvq_set hk (by rw [e]) _ _
  · rfl
/-- The link i with other keys. -/
def setk (ns : List (Nd × Bool)) (i : Int) (A : Option Addr) (n c : Nat) : List (Nd × Bool) := if lvq ns i then ns.set i.toNat (⟨(ndi ns i).rep, A, n, c, (ndi ns i).ahead, (ndi ns i).behind⟩, true) else ns
theorem lvq_setk (ns : List (Nd × Bool)) (i : Int) (A : Option Addr) (n c : Nat) (j : Int) : lvq (setk ns i A n c) j = lvq ns j := by
  unfold setk
  split
  · rename_i h
    obtain ⟨k, rfl, hk, e⟩ := lvq_form h
    exact lvq_set hk (by rw [e]) _ _
  · rfl
section
variable (w : World) (P Q M lim cn cf : Nat) (An Af : Option Addr) (ns : List (Nd × Bool)) (fs : List Nat)
theorem y_chg1 (h1 : w.cell? ⟨P, 3, none⟩ = some (.pointer (some ⟨Q, 0, none⟩))) (hlt : P < w.heap.size) (hPQ : ¬ QB Q An Af P) (a : Qo w Q M lim An cn Af cf ns fs) (i : Int) (B : Nat) (b : Int) (hB : w.cell? ⟨B, 0, none⟩ = some (.int .i64 b)) (hBl : B < w.heap.size) :
    Calls Tryz.prog 89 #[.pointer (some ⟨P, 0, none⟩), .int .i64 i, .func (.func 127) #[] #[.pointer (some ⟨B, 0, none⟩)]] w fun e w' => e = .returned (.tuple #[]) ∧ QStep w Q M lim An Af (setb ns i b) fs w' := by
  unfold setb
  cases hi : lvq ns i with
  | true =>
    obtain ⟨k, rfl, hk, e⟩ := lvq_form hi
    exact y_change1 w P Q M lim cn cf An Af ns fs h1 hlt hPQ a k hk _ _ _ _ _ _ e B b hB hBl
  | false =>
    refine (y_change_no w P Q M lim cn cf An Af ns fs h1 a i _ hi).mono ?_
    rintro e w' ⟨rfl, hb⟩
    exact ⟨rfl, An, cn, Af, cf, a.chg (K.Chg.of_below (O := fun _ => False) hb) (fun _ _ h => h), K.Chg.of_below hb, fun j hj => .inl hj⟩
theorem y_chg2 (h1 : w.cell? ⟨P, 3, none⟩ = some (.pointer (some ⟨Q, 0, none⟩))) (hlt : P < w.heap.size) (hPQ : ¬ QB Q An Af P) (a : Qo w Q M lim An cn Af cf ns fs) (i : Int) (B : Nat) (b : Int) (hB : w.cell? ⟨B, 0, none⟩ = some (.int .i64 b)) (hBl : B < w.heap.size) :
    Calls Tryz.prog 89 #[.pointer (some ⟨P, 0, none⟩), .int .i64 i, .func (.func 128) #[] #[.pointer (some ⟨B, 0, none⟩)]] w fun e w' => e = .returned (.tuple #[]) ∧ QStep w Q M lim An Af (seta ns i b) fs w' := by
  unfold seta
  cases hi : lvq ns i with
  | true =>
    obtain ⟨k, rfl, hk, e⟩ := lvq_form hi
    exact y_change2 w P Q M lim cn cf An Af ns fs h1 hlt hPQ a k hk _ _ _ _ _ _ e B b hB hBl
  | false =>
    refine (y_change_no w P Q M lim cn cf An Af ns fs h1 a i _ hi).mono ?_
    rintro e w' ⟨rfl, hb⟩
    exact ⟨rfl, An, cn, Af, cf, a.chg (K.Chg.of_below (O := fun _ => False) hb) (fun _ _ h => h), K.Chg.of_below hb, fun j hj => .inl hj⟩
theorem y_chg3 (h1 : w.cell? ⟨P, 3, none⟩ = some (.pointer (some ⟨Q, 0, none⟩))) (hlt : P < w.heap.size) (hPQ : ¬ QB Q An Af P) (a : Qo w Q M lim An cn Af cf ns fs) (i : Int) (B : Nat) (A : Option Addr) (n c : Nat) (hB : w.cell? ⟨B, 0, none⟩ = some (.slice A n c)) (hBl : B < w.heap.size) :
    Calls Tryz.prog 89 #[.pointer (some ⟨P, 0, none⟩), .int .i64 i, .func (.func 90) #[] #[.pointer (some ⟨B, 0, none⟩)]] w fun e w' => e = .returned (.tuple #[]) ∧ QStep w Q M lim An Af (setk ns i A n c) fs w' := by
  unfold setk
  cases hi : lvq ns i with
  | true =>
    obtain ⟨k, rfl, hk, e⟩ := lvq_form hi
    exact y_change3 w P Q M lim cn cf An Af ns fs h1 hlt hPQ a k hk _ _ _ _ _ _ e B A n c hB hBl
  | false =>
    refine (y_change_no w P Q M lim cn cf An Af ns fs h1 a i _ hi).mono ?_
    rintro e w' ⟨rfl, hb⟩
    exact ⟨rfl, An, cn, Af, cf, a.chg (K.Chg.of_below (O := fun _ => False) hb) (fun _ _ h => h), K.Chg.of_below hb, fun j hj => .inl hj⟩
theorem y_keep (h1 : w.cell? ⟨P, 3, none⟩ = some (.pointer (some ⟨Q, 0, none⟩))) (hlt : P < w.heap.size) (hPQ : ¬ QB Q An Af P) (a : Qo w Q M lim An cn Af cf ns fs) (i : Int) (A : Option Addr) (n c : Nat) :
    Calls Tryz.prog 51 #[.pointer (some ⟨P, 0, none⟩), .int .i64 i, .slice A n c] w fun e w' => e = .returned (.tuple #[]) ∧ QStep w Q M lim An Af (setk ns i A n c) fs w' := by
  have hb0 : Below w.heap.size w (w.alloc (.cells #[.slice A n c] 47)) := (Below.refl _ w).alloc (Nat.le_refl _) _
  have HC := Lib.hid (y_chg3 (w.alloc (.cells #[.slice A n c] 47)) P Q M lim cn cf An Af ns fs ((hb0.cell (p := ⟨P, 3, none⟩) hlt).trans h1) (by simp; omega) hPQ (a.chg (K.Chg.of_below (O := fun _ => False) hb0) (fun _ _ h => h)) i w.heap.size A n c (by simp) (by simp))
  have HB := Lib.hid hb0
  have hmf : ∀ (fn : Fn) (first cap : Array Value) (w : World), (Instr.makeFunc fn first cap).run Tryz.prog w = .ok (.func fn first cap) w := fun _ _ _ _ => rfl
  clear a hPQ hb0 h1
  go_enter Tryz.func51, Tryz.ntmps51
  go_wp2_with (go_at_call 89; (with_reducible refine HC.out.mono ?_); rintro e w2 ⟨rfl, hq⟩; have HQ := Lib.hid hq; clear hq)
  go_end0
  exact ⟨rfl, HQ.out.from HB.out⟩
theorem QStep.same {w w1 w2 : World} {Q M lim : Nat} {An Af An1 Af1 : Option Addr} {ns2 : List (Nd × Bool)} {fs2 : List Nat} (h1 : K.Chg w w1 (QB Q An Af)) (hi : ∀ j, QB Q An1 Af1 j → QB Q An Af j ∨ w.heap.size ≤ j) (h2 : QStep w1 Q M lim An1 Af1 ns2 fs2 w2) : QStep w Q M lim An Af ns2 fs2 w2 := by
  obtain ⟨An', cn', Af', cf', a, b, c⟩ := h2
  refine ⟨An', cn', Af', cf', a, h1.trans b hi, fun j hj => ?_⟩
  rcases c j hj with h | h
  · exact hi j h
  · exact .inr (Nat.le_trans h1.size h)
set_option maxHeartbeats 1000000 in
theorem y_join (h1 : w.cell? ⟨P, 3, none⟩ = some (.pointer (some ⟨Q, 0, none⟩))) (hlt : P < w.heap.size) (hPQ : ¬ QB Q An Af P) (q : Qo w Q M lim An cn Af cf ns fs) (a b : Int) :
    Calls Tryz.prog 93 #[.pointer (some ⟨P, 0, none⟩), .int .i64 a, .int .i64 b] w fun e w' => e = .returned (.tuple #[]) ∧ QStep w Q M lim An Af (seta (setb ns a b) b a) fs w' := by
  obtain ⟨W0, hW0⟩ : ∃ W0, (w.alloc (.cells #[.int .i64 a] 3)).alloc (.cells #[.int .i64 b] 3) = W0 := ⟨_, rfl⟩
  have hb0 : Below w.heap.size w W0 := by rw [← hW0]; exact ((Below.refl _ w).alloc (Nat.le_refl _) _).alloc (by simp) _
  have hz0 : W0.heap.size = w.heap.size + 2 := by rw [← hW0]; simp
  have x1 : W0.heap[w.heap.size]? = some (.cells #[.int .i64 a] 3 (0, 0)) := by rw [← hW0]; exact (Below.heap_alloc _ _ _ (by simp)).trans (K.alloc_top _ _)
  have x2 : W0.heap[w.heap.size + 1]? = some (.cells #[.int .i64 b] 3 (0, 0)) := by
    rw [← hW0]
    have := K.alloc_top (w.alloc (.cells #[.int .i64 a] 3)) (.cells #[.int .i64 b] 3)
    rw [World.size_alloc] at this
    exact this
  have h0 := (hb0.cell (p := ⟨P, 3, none⟩) hlt).trans h1
  have q0 := q.chg (K.Chg.of_below (O := fun _ => False) hb0) (fun _ _ h => h)
  have y1 : W0.cell? ⟨w.heap.size, 0, none⟩ = some (.int .i64 a) := cell_of_row W0 _ 0 _ _ (0, 0) x1
  have y2 : W0.cell? ⟨w.heap.size + 1, 0, none⟩ = some (.int .i64 b) := cell_of_row W0 _ 0 _ _ (0, 0) x2
  have HC1 := Lib.hid (y_chg1 W0 P Q M lim cn cf An Af ns fs h0 (by omega) hPQ q0 a (w.heap.size + 1) b y2 (by omega))
  have HQB := Lib.hid (fun j (hj : QB Q An Af j) => q.qb hj)
  have HNC := Lib.hid hPQ
  have HB0 := Lib.hid hb0
  have HX1 := Lib.hid x1
  have HX2 := Lib.hid x2
  have HH0 := Lib.hid h0
  have HZ := Lib.hid hz0
  have hmf : ∀ (fn : Fn) (first cap : Array Value) (w : World), (Instr.makeFunc fn first cap).run Tryz.prog w = .ok (.func fn first cap) w := fun _ _ _ _ => rfl
  clear q h0 q0 hb0 x1 x2 hPQ h1 hz0
  go_enter Tryz.func93, Tryz.ntmps93
  go_wp2_with (first
      | (go_at_call 89; (with_reducible refine HC1.out.mono ?_); rintro e w2 ⟨rfl, An2, cn2, Af2, cf2, hq2, hc2, hi2⟩
         have s2 := hc2.size
         have z0 := HZ.out
         have n1 : ¬ QB Q An Af w.heap.size := fun hj => by have := HQB.out _ hj; omega
         have n2 : ¬ QB Q An Af (w.heap.size + 1) := fun hj => by have := HQB.out _ hj; omega
         have z1 := (hc2.block w.heap.size (by omega) n1).trans HX1.out
         have z2 := (hc2.block (w.heap.size + 1) (by omega) n2).trans HX2.out
         have k1 : w2.cell? ⟨w.heap.size, 0, none⟩ = some (.int .i64 a) := cell_of_row w2 _ 0 _ _ (0, 0) z1
         have k2 : w2.cell? ⟨w.heap.size + 1, 0, none⟩ = some (.int .i64 b) := cell_of_row w2 _ 0 _ _ (0, 0) z2
         have hp2 : w2.cell? ⟨P, 3, none⟩ = some (.pointer (some ⟨Q, 0, none⟩)) := (hc2.cell (by omega) HNC.out 3).trans HH0.out
         have hn2 : ¬ QB Q An2 Af2 P := fun hj => by rcases hi2 _ hj with h | h; exact HNC.out h; omega
         have HC2 := Lib.hid (y_chg2 w2 P Q M lim cn2 cf2 An2 Af2 _ fs hp2 (by omega) hn2 hq2 b w.heap.size a k1 (by omega))
         have HI2 := Lib.hid hi2
         have HK2 := Lib.hid hc2
         clear hq2 hc2 hi2 z1 z2 hp2 hn2 z0)
      | (go_at_call 89; (with_reducible refine HC2.out.mono ?_); rintro e w4 ⟨rfl, hq4⟩; have HQ4 := Lib.hid hq4; clear hq4))
  go_end0
  refine ⟨rfl, QStep.from HB0.out (QStep.same HK2.out HI2.out HQ4.out)⟩
theorem y_behind_no (h1 : w.cell? ⟨P, 3, none⟩ = some (.pointer (some ⟨Q, 0, none⟩))) (a : Qo w Q M lim An cn Af cf ns fs) (i : Int) (hi : lvq ns i = false) :
    Calls Tryz.prog 91 #[.pointer (some ⟨P, 0, none⟩), .int .i64 i] w fun e w' => e = .returned (.int .i64 (-1)) ∧ Below w.heap.size w w' := by
  have hp := Lib.hid (q_peek_no w Q M lim cn cf An Af ns fs a i hi)
  clear a hi
  go_enter Tryz.func91, Tryz.ntmps91
  go_wp2_with (go_at_call 78; (with_reducible refine hp.out.mono ?_); rintro e w1 ⟨rfl, hb1⟩; have HB1 := Lib.hid hb1; clear hb1)
  go_ret
  exact ⟨rfl, (HB1.out).alloc HB1.out.size _⟩
theorem y_behind_yes (h1 : w.cell? ⟨P, 3, none⟩ = some (.pointer (some ⟨Q, 0, none⟩))) (a : Qo w Q M lim An cn Af cf ns fs) (k : Nat) (kd : Kd) (ah be : Int) (hx : ns[k]? = some (mkn kd ah be, true)) :
    Calls Tryz.prog 91 #[.pointer (some ⟨P, 0, none⟩), .int .i64 (k : Int)] w fun e w' => e = .returned (.int .i64 be) ∧ Below w.heap.size w w' := by
  obtain ⟨hk, hx⟩ := List.getElem?_eq_some_iff.1 hx
  have ht : ns[k].2 = true := by rw [hx]
  have hp := q_peek_yes w Q M lim cn cf An Af ns fs a k hk ht
  rw [hx] at hp
  have hp : Hid (Calls _ _ _ _ (PeekP w (ndv kd.1 kd.2.1 kd.2.2.1 kd.2.2.2 ah be) true)) := hp
  clear a hx ht
  go_enter Tryz.func91, Tryz.ntmps91
  go_wp2_with (go_at_call 78; (with_reducible refine hp.out.mono ?_); rintro e w1 ⟨rfl, hb1⟩; have HB1 := Lib.hid hb1; clear hb1)
  go_ret
  exact ⟨rfl, (HB1.out).alloc HB1.out.size _⟩
end
end Go.Proofs.YtelfacchhclgnaaGreat.Yp
