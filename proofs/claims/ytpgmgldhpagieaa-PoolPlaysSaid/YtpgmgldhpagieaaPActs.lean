
/- A slice of a pool's acts, as it reads. -/
import Derived.Test.YtpgmgldhpagieaaPPlay2
namespace Go.Proofs.Ytpgmgldhpagieaa
open Go.RowKit
def Rp (w : World) (B : Nat) (A : Option Addr) (xs : List (Nat × Int × Nat)) : Prop :=
  (∀ x ∈ xs, x.1 < 256) ∧ (xs ≠ [] → ∃ b off, A = some ⟨b, off, none⟩ ∧ b < B ∧ ∀ (k : Nat) (h : k < xs.length),
    w.cell? ⟨b, off + k * 3, none⟩ = some (.int .u8 (xs[k].1 : Nat)) ∧ w.cell? ⟨b, off + k * 3 + 1, none⟩ = some (.int .i64 xs[k].2.1) ∧ w.cell? ⟨b, off + k * 3 + 2, none⟩ = some (.int .u64 (xs[k].2.2 : Nat)))
theorem Rp.below {w w' : World} {B B' : Nat} {A : Option Addr} {xs : List (Nat × Int × Nat)} (h : Rp w B A xs) (hb : Below B' w w') (hB : B ≤ B') : Rp w' B A xs := ⟨h.1, fun hne => by
  obtain ⟨b, off, rfl, hlt, hc⟩ := h.2 hne
  refine ⟨b, off, rfl, hlt, fun k hk => ?_⟩
  obtain ⟨c0, c1, c2⟩ := hc k hk
  exact ⟨(hb.cell (p := ⟨b, _, none⟩) (Nat.lt_of_lt_of_le hlt hB)).trans c0, (hb.cell (p := ⟨b, _, none⟩) (Nat.lt_of_lt_of_le hlt hB)).trans c1, (hb.cell (p := ⟨b, _, none⟩) (Nat.lt_of_lt_of_le hlt hB)).trans c2⟩⟩
theorem Rp.at_ {w : World} {B : Nat} {A : Option Addr} {xs : List (Nat × Int × Nat)} (h : Rp w B A xs) {k : Nat} (hk : k < xs.length) : ∃ b off, A = some ⟨b, off, none⟩ ∧ b < B ∧ xs[k].1 < 256 ∧
    w.cell? ⟨b, off + k * 3, none⟩ = some (.int .u8 (xs[k].1 : Nat)) ∧ w.cell? ⟨b, off + k * 3 + 1, none⟩ = some (.int .i64 xs[k].2.1) ∧ w.cell? ⟨b, off + k * 3 + 2, none⟩ = some (.int .u64 (xs[k].2.2 : Nat)) := by
  obtain ⟨b, off, rfl, hlt, hc⟩ := h.2 (fun e => by subst e; simp at hk)
  exact ⟨b, off, rfl, hlt, h.1 _ (List.getElem_mem hk), hc k hk⟩
section
variable {w w' : World} {B P M R lim k : Nat}
theorem Pl.below (h : Pl w B P M R lim k) {w' : World} (hb : Below w.heap.size w w') : Pl w' B P M R lim k := by
  obtain ⟨ns, fs, rs, r, p, ⟨An, cn, Af, cf, Av, cv, Al, cl, Ag, cg, a⟩, h⟩ := h
  exact ⟨ns, fs, rs, r, p, ⟨An, cn, Af, cf, Av, cv, Al, cl, Ag, cg, a.but (ButS.of_below hb (Nat.le_refl _))⟩, h⟩
theorem Pl.mono (h : Pl w B P M R lim k) {k' : Nat} (hk : k ≤ k') : Pl w B P M R lim k' := by
  obtain ⟨ns, fs, rs, r, p, hb, h1, h2, h3, h4, h5⟩ := h
  exact ⟨ns, fs, rs, r, p, hb, h1, h2, Nat.le_trans h3 hk, Nat.le_trans h4 hk, h5⟩
/-- What the two say of how many are taken. -/
theorem Pl.asks (h : Pl w B P M R lim k) (hk : k ≤ 1000) : ∃ n : Nat, n ≤ lim ∧ n ≤ 1000 ∧ lim ≤ 1048576 ∧
    (∀ w', Below w.heap.size w w' → (Calls Try.prog 9 #[.pointer (some ⟨P, 0, none⟩)] w' fun e w2 => e = .returned (.int .i64 (n : Int)) ∧ ∃ N, w2 = w'.drewN N) ∧
      (Calls Try.prog 10 #[.pointer (some ⟨R, 0, none⟩)] w' fun e w2 => e = .returned (.int .i64 (n : Int)) ∧ w' = w2) ∧
      (Calls Try.prog 11 #[.pointer (some ⟨P, 0, none⟩), .int .i64 1] w' fun e w2 => e = .returned (.bool (decide ((n : Int) < (lim : Int)))) ∧ ∃ N, w2 = w'.drewN N)) := by
  obtain ⟨ns, fs, rs, r, p, ⟨An, cn, Af, cf, Av, cv, Al, cl, Ag, cg, a⟩, hl, hf, hr, hn, hT⟩ := h
  have hlen := hf.len
  have et := hl.tkn_eq
  refine ⟨tkn ns, hT, by omega, a.po.lim_le, fun w' hb => ?_⟩
  have a2 := a.but (ButS.of_below hb (Nat.le_refl _))
  refine ⟨lenI a2.po _ (by omega), r_len a2.rf _ (by rw [et]), ?_⟩
  refine (p_room w' B P M lim cn cf An Af ns fs a2.po 1).mono ?_
  rintro e w2 ⟨rfl, h⟩
  refine ⟨?_, h⟩
  have : decide ((1 : Int) ≤ (lim : Int) - ((ns.length - fs.length : Nat) : Int)) = decide ((tkn ns : Int) < (lim : Int)) := by
    rw [decide_eq_decide]; omega
  rw [this]
/-- The end: the steps counted, the walks. -/
theorem Pl.ends (h : Pl w B P M R lim k) (hk : k ≤ 1000) : ∃ r : Nat, r ≤ 1000 ∧ ∀ w', Below w.heap.size w w' →
    w'.cell? ⟨P, 0, none⟩ = some (.pointer (some ⟨M, 0, none⟩)) ∧ w'.cell? ⟨R, 4, none⟩ = some (.int .i64 (r : Int)) ∧
    (Calls Try.prog 12 #[.pointer (some ⟨M, 0, none⟩)] w' fun e w2 => e = .returned (.int .i64 (r : Int)) ∧ w' = w2) ∧
    (Calls Try.prog 13 #[.pointer (some ⟨M, 0, none⟩)] w' fun e w2 => e = .returned (.int .i64 (r : Int)) ∧ w' = w2) ∧
    (Calls Try.prog 15 #[.pointer (some ⟨P, 0, none⟩)] w' fun e w2 => e = .returned (.int .i64 (lim : Int)) ∧ w' = w2) ∧
    (∀ (m : Nat) (mi : Int), mi = (m : Int) → 0 < m → m ≤ 1000000 → Calls Try.prog 14 #[.pointer (some ⟨P, 0, none⟩), .pointer (some ⟨R, 0, none⟩), .int .i64 mi] w' fun e w2 => e = .returned (.bool true) ∧ Below w'.heap.size w' w2) := by
  obtain ⟨ns, fs, rs, r, p, ⟨An, cn, Af, cf, Av, cv, Al, cl, Ag, cg, a⟩, hl, hf, hr, hn, hT⟩ := h
  refine ⟨r, by omega, fun w' hb => ?_⟩
  have a2 := a.but (ButS.of_below hb (Nat.le_refl _))
  exact ⟨a2.po.c0, a2.rf.c4, m_reads w' M r 0 0 r p a2.mt, m_taken w' M r 0 0 r p a2.mt, p_limit w' B P M lim cn cf An Af ns fs a2.po, fun m mi h1 h2 h3 => same_law w' a2.po a2.rf hl m mi h1 h2 h3⟩
theorem pl_new {w : World} (hM : Mt w M 0 0 0 0 0) (hMl : B ≤ M) (hPo : Po w B P M lim none 0 none 0 [] []) (hMP : M ≠ P) (hR : R = w.heap.size) :
    Pl (w.alloc (.cells #[.slice none 0 0, .slice none 0 0, .slice none 0 0, .int .i64 (lim : Int), .int .i64 0] 37)) B P M R lim 0 := by
  subst hR
  have b := but_alloc w (.cells #[.slice none 0 0, .slice none 0 0, .slice none 0 0, .int .i64 (lim : Int), .int .i64 0] 37) (fun _ => False)
  have hPl := hPo.lt
  have hMl2 := hM.lt
  refine ⟨[], [], [], 0, 0, ⟨none, 0, none, 0, none, 0, none, 0, none, 0, ⟨hPo.but b (fun _ _ h => h), ⟨alloc_top _ _ rfl, own_nil _ _ _ _, own_nil _ _ _ _, own_nil _ _ _ _, by have := hPo.base; omega, fun _ h => by simp at h, fun _ h => by simp at h, fun _ h => by simp at h, fun _ _ h => by simp at h, fun _ _ h => by simp at h, fun _ _ h => by simp at h, fun _ h => by simp at h, by simp, by simp⟩, (b.block M hMl2 (fun h => h)).trans hM, by simp; omega, hMl, ?_, ?_, ?_⟩⟩, Like.nil, FreeOk.nil, Nat.le_refl _, by simp, Nat.zero_le _⟩
  · rintro j (h | h | h) (h' | h' | h' | h')
    · omega
    all_goals simp at h h'
  · rintro j (h | h | h)
    · omega
    all_goals simp at h
  · rintro j (h | h | h | h)
    · omega
    all_goals simp at h
end
end Go.Proofs.Ytpgmgldhpagieaa
