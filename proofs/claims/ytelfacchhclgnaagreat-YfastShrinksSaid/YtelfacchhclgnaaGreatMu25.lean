/- Plain facts: what is left to be put in order when a row has been parted. The heap: one number goes down; the heap is built and emptied; the text walked. The heap is built and emptied; the text walked. -/
import Derived.Test.YtelfacchhclgnaaGreatMu24
section
namespace Go.Proofs.YtelfacchhclgnaaGreat.Kb
set_option maxRecDepth 20000
open Go.Sort
/-- Of the places from a up to b only those from x up to y have still to be put in order. -/
def Fin' (a b x y : Nat) (d dk : Array Int) : Prop := PermIn a b d dk ∧ Bel x y dk ∧ ∀ d', PermIn x y dk d' → SortedIn ltInt x y d' → SortedIn ltInt a b d'
section
variable {a b x y m v : Nat} {d dk d1 d2 : Array Int}
theorem fin_start (h : Bel a b d) : Fin' a b a b d d := ⟨permIn_refl _ _ _, h, fun _ _ h => h⟩
theorem fin_perm (h : Fin' a b x y d dk) (hp : PermIn x y dk d1) (ha : a ≤ x) (hy : y ≤ b) (hb : b ≤ d.size) : Fin' a b x y d d1 := by
  have hs := h.1.1
  exact ⟨permIn_trans _ _ _ _ _ h.1 (permIn_mono _ _ x y a b ha hy (by omega) hp), h.2.1.perm hp (by omega), fun d' h1 h2 => h.2.2 d' (permIn_trans _ _ _ _ _ hp h1) h2⟩
theorem fin_done (h : Fin' a b x y d dk) (hp : PermIn x y dk d1) (ho : SortedIn ltInt x y d1) (ha : a ≤ x) (hy : y ≤ b) (hb : b ≤ d.size) : PermIn a b d d1 ∧ SortedIn ltInt a b d1 :=
  ⟨(fin_perm h hp ha hy hb).1, h.2.2 d1 hp ho⟩
theorem glue (hL : SortedIn ltInt x m d) (hR : SortedIn ltInt (m + 1) y d) (h1 : ∀ k, x ≤ k → k < m → d[k]! ≤ d[m]!) (h2 : ∀ k, m < k → k < y → d[m]! ≤ d[k]!) : SortedIn ltInt x y d := by
  rw [sorted_iff] at hL hR ⊢
  intro i j hi hij hj
  by_cases c1 : j < m
  · exact hL i j hi hij c1
  · by_cases c2 : m < i
    · exact hR i j c2 hij hj
    · by_cases c3 : i = m
      · subst c3; exact h2 j hij hj
      · have e1 := h1 i hi (by omega)
        by_cases c4 : j = m
        · subst c4; exact e1
        · exact Int.le_trans e1 (h2 j (by omega) hj)
theorem fin_eq (h : Fin' a b x y d dk) (hx : 0 < x) (hv : dk[v]! ≤ dk[x - 1]!) (hp : PermIn x y dk d1) (h1 : ∀ k, x ≤ k → k < m → d1[k]! ≤ dk[v]!) (h2 : ∀ k, m ≤ k → k < y → dk[v]! < d1[k]!)
    (hxm : x < m) (ha : a ≤ x) (hy : y ≤ b) (hb : b ≤ d.size) : Fin' a b m y d d1 := by
  have hs := h.1.1
  have hB := h.2.1.perm hp (by omega) hx
  rw [hp.2.1 (x - 1) (.inl (by omega))] at hB
  refine ⟨(fin_perm h hp ha hy hb).1, fun _ k h3 h4 => ?_, fun d' h3 h4 => h.2.2 d' (permIn_trans _ _ _ _ _ hp (permIn_mono _ _ m y x y (by omega) (Nat.le_refl _) (by rw [hp.1]; omega) h3)) ?_⟩
  · have := h1 (m - 1) (by omega) (by omega); have := h2 k h3 h4; omega
  · rw [sorted_iff] at h4 ⊢
    intro i j hi hij hj
    have hall := permIn_all d1 d' m y (fun z => dk[v]! < z) (by rw [hp.1]; omega) h3 h2
    by_cases c1 : j < m
    · rw [h3.2.1 i (.inl (by omega)), h3.2.1 j (.inl c1)]
      have q1 := h1 i hi (by omega); have q2 := hB j (by omega) hj; omega
    · by_cases c2 : m ≤ i
      · exact h4 i j c2 hij hj
      · rw [h3.2.1 i (.inl (by omega))]
        have q1 := h1 i hi (by omega); have q2 := hall j (by omega) hj; omega
theorem bel_left (h : Fin' a b x y d dk) (hp : PermIn x y dk d1) (hmy : m ≤ y) (hy : y ≤ b) (hb : b ≤ d.size) : Bel x m d1 := by
  have hs := h.1.1
  exact fun h0 k h1 h2 => h.2.1.perm hp (by omega) h0 k h1 (by omega)
theorem bel_right (h2 : ∀ k, m < k → k < y → d1[m]! ≤ d1[k]!) : Bel (m + 1) y d1 := fun _ k h3 h4 => h2 k h3 h4
theorem fin_left (h : Fin' a b x y d dk) (hp : PermIn x y dk d1) (h1 : ∀ k, x ≤ k → k < m → d1[k]! < d1[m]!) (h2 : ∀ k, m < k → k < y → d1[m]! ≤ d1[k]!)
    (hp2 : PermIn x m d1 d2) (ho : SortedIn ltInt x m d2) (hxm : x ≤ m) (hmy : m < y) (ha : a ≤ x) (hy : y ≤ b) (hb : b ≤ d.size) : Fin' a b (m + 1) y d d2 := by
  have hs := h.1.1
  have hs1 := hp.1
  have q2 : PermIn x y d1 d2 := permIn_mono _ _ x m x y (Nat.le_refl _) (by omega) (by omega) hp2
  have em : d2[m]! = d1[m]! := hp2.2.1 m (.inr (Nat.le_refl _))
  refine ⟨(fin_perm (fin_perm h hp ha hy hb) q2 ha hy hb).1, fun _ k h3 h4 => ?_, fun d' h3 h4 => h.2.2 d' (permIn_trans _ _ _ _ _ hp (permIn_trans _ _ _ _ _ q2 (permIn_mono _ _ (m + 1) y x y (by omega) (Nat.le_refl _) (by rw [q2.1]; omega) h3))) ?_⟩
  · show d2[m + 1 - 1]! ≤ _
    rw [Nat.add_sub_cancel, em, hp2.2.1 k (.inr (by omega))]; exact h2 k h3 h4
  · have em' : d'[m]! = d1[m]! := (h3.2.1 m (.inl (by omega))).trans em
    refine glue (m := m) (fun i j hi hij hj => ?_) h4 (fun k h5 h6 => ?_) (fun k h5 h6 => ?_)
    · rw [h3.2.1 i (.inl (by omega)), h3.2.1 j (.inl (by omega))]; exact ho i j hi hij hj
    · rw [em', h3.2.1 k (.inl (by omega))]
      exact Int.le_of_lt (permIn_all d1 d2 x m (fun z => z < d1[m]!) (by omega) hp2 h1 k h5 h6)
    · rw [em']
      exact permIn_all d2 d' (m + 1) y (fun z => d1[m]! ≤ z) (by rw [q2.1]; omega) h3 (fun i h7 h8 => by rw [hp2.2.1 i (.inr (by omega))]; exact h2 i h7 h8) k h5 h6
theorem fin_right (h : Fin' a b x y d dk) (hp : PermIn x y dk d1) (h1 : ∀ k, x ≤ k → k < m → d1[k]! < d1[m]!) (h2 : ∀ k, m < k → k < y → d1[m]! ≤ d1[k]!)
    (hp2 : PermIn (m + 1) y d1 d2) (ho : SortedIn ltInt (m + 1) y d2) (hxm : x ≤ m) (hmy : m < y) (ha : a ≤ x) (hy : y ≤ b) (hb : b ≤ d.size) : Fin' a b x m d d2 := by
  have hs := h.1.1
  have hs1 := hp.1
  have q2 : PermIn x y d1 d2 := permIn_mono _ _ (m + 1) y x y (by omega) (Nat.le_refl _) (by omega) hp2
  have em : d2[m]! = d1[m]! := hp2.2.1 m (.inl (by omega))
  have f2 := fin_perm (fin_perm h hp ha hy hb) q2 ha hy hb
  refine ⟨f2.1, fun h0 k h3 h4 => f2.2.1 h0 k h3 (by omega), fun d' h3 h4 => h.2.2 d' (permIn_trans _ _ _ _ _ hp (permIn_trans _ _ _ _ _ q2 (permIn_mono _ _ x m x y (Nat.le_refl _) (by omega) (by rw [q2.1]; omega) h3))) ?_⟩
  have em' : d'[m]! = d1[m]! := (h3.2.1 m (.inr (Nat.le_refl _))).trans em
  refine glue (m := m) h4 (fun i j hi hij hj => ?_) (fun k h5 h6 => ?_) (fun k h5 h6 => ?_)
  · rw [h3.2.1 i (.inr (by omega)), h3.2.1 j (.inr (by omega))]; exact ho i j hi hij hj
  · rw [em']
    exact Int.le_of_lt (permIn_all d2 d' x m (fun z => z < d1[m]!) (by rw [q2.1]; omega) h3 (fun i h7 h8 => by rw [hp2.2.1 i (.inl (by omega))]; exact h1 i h7 h8) k h5 h6)
  · rw [em', h3.2.1 k (.inr (by omega))]
    exact permIn_all d1 d2 (m + 1) y (fun z => d1[m]! ≤ z) (by omega) hp2 (fun i h7 h8 => h2 i h7 h8) k h5 h6
end
end Go.Proofs.YtelfacchhclgnaaGreat.Kb
end
section
namespace Go.Proofs.YtelfacchhclgnaaGreat.Kb
set_option maxRecDepth 20000
open Go.RowKit Go.Sort
theorem sd_stop {hi F root : Nat} (d : Array Int) (h : hi ≤ 2 * root + 1) : siftDown ltInt hi F root d = d := by
  rw [siftDown, dif_pos h]
theorem sd_two {hi F root c : Nat} {d : Array Int} (h : c = 2 * root + 1) (h2 : c + 1 < hi) (hl : ltInt d[F + c]! d[F + c + 1]! = true) :
    siftDown ltInt hi F root d = if ltInt d[F + root]! d[F + (c + 1)]! then siftDown ltInt hi F (c + 1) (swp d (F + root) (F + (c + 1))) else d := by
  subst h
  rw [siftDown, dif_neg (by omega), if_pos (by simp [hl]; omega), dif_pos (by omega)]
  cases ltInt d[F + root]! d[F + (2 * root + 1 + 1)]! <;> simp
theorem sd_one {hi F root c : Nat} {d : Array Int} (h : c = 2 * root + 1) (h1 : c < hi) (hl : hi ≤ c + 1 ∨ ltInt d[F + c]! d[F + c + 1]! = false) :
    siftDown ltInt hi F root d = if ltInt d[F + root]! d[F + c]! then siftDown ltInt hi F c (swp d (F + root) (F + c)) else d := by
  subst h
  rw [siftDown, dif_neg (by omega), if_neg (by rcases hl with hl | hl; simp; omega; simp [hl])]
  cases ltInt d[F + root]! d[F + (2 * root + 1)]! <;> simp
set_option maxHeartbeats 8000000 in
set_option maxRecDepth 100000 in
theorem so_sift (w0 w : World) (blk off n cap lo hi F : Nat) (d : Array Int) (h : Rr w0 blk off n d w) (hF : F + hi ≤ n) (hlo : lo ≤ n) :
    Calls Tryz.prog 180 #[.slice (some ⟨blk, off, none⟩) n cap, .int .i64 lo, .int .i64 hi, .int .i64 F] w fun e w' =>
      e = .returned (.tuple #[]) ∧ Rr w0 blk off n (siftDown ltInt hi F lo d) w' := by
  have few := h.few
  have H := Lib.hid h
  clear h
  go_enter Tryz.func180, Tryz.ntmps180
  go_wp2
  go_loopw [8] (fun vr wr => ∃ (r : Nat) (dk : Array Int), vr = .int .i64 r ∧ r ≤ n ∧ Hid (Rr w0 blk off n dk wr ∧ siftDown ltInt hi F r dk = siftDown ltInt hi F lo d)) (fun vr _ => hi - (intOf vr).toNat)
  case atStart => exact ⟨lo, d, rfl, hlo, Lib.hid ⟨H.out, rfl⟩⟩
  case round =>
    obtain ⟨r, dk, rfl, hr, hK⟩ := hrel
    obtain ⟨c, hc⟩ : ∃ c : Nat, c = 2 * r + 1 := ⟨_, rfl⟩
    have ec : (2 : Int) * (r : Int) + 1 = (c : Int) := by omega
    have HC := Lib.hid hc
    obtain ⟨G, hG⟩ : ∃ G : Nat → Int, ∀ t, G t = dk[t]! := ⟨fun t => dk[t]!, fun _ => rfl⟩
    have hcw : ∀ t, t < n → wr.cell? ⟨blk, off + t, none⟩ = some (.int .u64 (G t)) := fun t ht => by rw [hG]; exact hK.out.1.cell ht
    have hfw : ∀ t, t < n → wr.frozen? ⟨blk, off + t, none⟩ = false := fun t ht => hK.out.1.free ht
    have HG := Lib.hid hG
    clear hG
    have fin2 : ltInt (G (F + c)) (G (F + c + 1)) = true → c + 1 < hi → (ltInt (G (F + r)) (G (F + (c + 1))) = false → dk = siftDown ltInt hi F lo d) ∧ (ltInt (G (F + r)) (G (F + (c + 1))) = true → siftDown ltInt hi F (c + 1) (swp dk (F + r) (F + (c + 1))) = siftDown ltInt hi F lo d) := by
      rw [HG.out, HG.out, HG.out, HG.out, ← hK.out.2]
      intro e h2
      rw [sd_two hc h2 e]
      exact ⟨fun e => by simp [e], fun e => by simp [e]⟩
    have fin1 : (hi ≤ c + 1 ∨ ltInt (G (F + c)) (G (F + c + 1)) = false) → c < hi → (ltInt (G (F + r)) (G (F + c)) = false → dk = siftDown ltInt hi F lo d) ∧ (ltInt (G (F + r)) (G (F + c)) = true → siftDown ltInt hi F c (swp dk (F + r) (F + c)) = siftDown ltInt hi F lo d) := by
      rw [HG.out, HG.out, HG.out, ← hK.out.2]
      intro e h2
      rw [sd_one hc h2 e]
      exact ⟨fun e => by simp [e], fun e => by simp [e]⟩
    have F2 := Lib.hid fin2
    have F1 := Lib.hid fin1
    clear fin1 fin2
    have stop : hi ≤ c → siftDown ltInt hi F r dk = dk := fun h => sd_stop dk (by omega)
    clear hc
    by_cases h1 : c < hi
    · have tR : ((F : Int) + (r : Int)).toNat = F + r := by omega
      have tC : ((F : Int) + (c : Int)).toNat = F + c := by omega
      have tD : ((F : Int) + (c : Int) + 1).toNat = F + c + 1 := by omega
      have tE : ((F : Int) + ((c : Int) + 1)).toNat = F + (c + 1) := by omega
      have l1 : F + r < n := by omega
      have l2 : F + c < n := by omega
      have y0 : (0 : Int) ≤ (F : Int) + (r : Int) := by omega
      have y1 : (0 : Int) ≤ (F : Int) + (c : Int) := by omega
      have y2 : (0 : Int) ≤ (F : Int) + (c : Int) + 1 := by omega
      have y3 : (0 : Int) ≤ (F : Int) + ((c : Int) + 1) := by omega
      by_cases h2 : c + 1 < hi
      · have l3 : F + c + 1 < n := by omega
        have l4 : F + (c + 1) < n := by omega
        have hd : decide ((c : Int) + 1 < (hi : Int)) = true := by rw [decide_eq_true_eq]; omega
        obtain ⟨v0, v1, v2, v3, v4⟩ : IntKind.i64.wrap ((c : Int) + 1) = (c : Int) + 1 ∧ IntKind.i64.wrap ((F : Int) + (r : Int)) = (F : Int) + (r : Int) ∧ IntKind.i64.wrap ((F : Int) + (c : Int)) = (F : Int) + (c : Int) ∧ IntKind.i64.wrap ((F : Int) + (c : Int) + 1) = (F : Int) + (c : Int) + 1 ∧ IntKind.i64.wrap ((F : Int) + ((c : Int) + 1)) = (F : Int) + ((c : Int) + 1) := ⟨w64 _ (by omega) (by omega), w64 _ (by omega) (by omega), w64 _ (by omega) (by omega), w64 _ (by omega) (by omega), w64 _ (by omega) (by omega)⟩
        go_wp2
        go_quiet (first | (go_at_call 118; refine Calls.quiet_of_same (less_any _ _ _)) | (go_at_call 118; exact less_more _ _ _ _ _))
        go_wp2
        all_goals go_quiet (first | (go_at_call 118; refine Calls.quiet_of_same (less_any _ _ _)) | (go_at_call 118; exact less_more _ _ _ _ _))
        all_goals go_wp2
        · have e1 : ltInt (G (F + c)) (G (F + c + 1)) = true := by assumption
          have e2 : ltInt (G (F + r)) (G (F + (c + 1))) = false := by simpa using ‹(!ltInt (G (F + r)) (G (F + (c + 1)))) = true›
          refine bodyPost_ret (results_none rfl _ _ _) rfl ?_
          exact ⟨rfl, by rw [← (F2.out e1 h2).1 e2]; exact (hK.out.1.drewN _).drewN _⟩
        · have e1 : ltInt (G (F + c)) (G (F + c + 1)) = true := by assumption
          have e2 : ltInt (G (F + r)) (G (F + (c + 1))) = true := by simpa using ‹(!ltInt (G (F + r)) (G (F + (c + 1)))) = false›
          go_region
          all_goals go_wp2
          go_roundw
          case rel => exact ⟨c + 1, _, by go_num, by omega, Lib.hid ⟨hK.out.1.swapG HG _ _ _ l1 l4, (F2.out e1 h2).2 e2⟩⟩
          case measure => simp [intOf]; have := HC.out; omega
        · have e1 : hi ≤ c + 1 ∨ ltInt (G (F + c)) (G (F + c + 1)) = false := .inr ‹_›
          have e2 : ltInt (G (F + r)) (G (F + c)) = false := by simpa using ‹(!ltInt (G (F + r)) (G (F + c))) = true›
          refine bodyPost_ret (results_none rfl _ _ _) rfl ?_
          exact ⟨rfl, by rw [← (F1.out e1 h1).1 e2]; exact (hK.out.1.drewN _).drewN _⟩
        · have e1 : hi ≤ c + 1 ∨ ltInt (G (F + c)) (G (F + c + 1)) = false := .inr ‹_›
          have e2 : ltInt (G (F + r)) (G (F + c)) = true := by simpa using ‹(!ltInt (G (F + r)) (G (F + c))) = false›
          go_region
          all_goals go_wp2
          go_roundw
          case rel => exact ⟨c, _, rfl, by omega, Lib.hid ⟨hK.out.1.swapG HG _ _ _ l1 l2, (F1.out e1 h1).2 e2⟩⟩
          case measure => simp [intOf]; have := HC.out; omega
      · have hd : decide ((c : Int) + 1 < (hi : Int)) = false := by rw [decide_eq_false_iff_not]; omega
        obtain ⟨v0, v1, v2⟩ : IntKind.i64.wrap ((c : Int) + 1) = (c : Int) + 1 ∧ IntKind.i64.wrap ((F : Int) + (r : Int)) = (F : Int) + (r : Int) ∧ IntKind.i64.wrap ((F : Int) + (c : Int)) = (F : Int) + (c : Int) := ⟨w64 _ (by omega) (by omega), w64 _ (by omega) (by omega), w64 _ (by omega) (by omega)⟩
        go_wp2
        go_quiet (first | (go_at_call 118; refine Calls.quiet_of_same (less_any _ _ _)) | (go_at_call 118; exact less_more _ _ _ _ _))
        go_wp2
        go_quiet (first | (go_at_call 118; refine Calls.quiet_of_same (less_any _ _ _)) | (go_at_call 118; exact less_more _ _ _ _ _))
        go_wp2
        · have e1 : hi ≤ c + 1 ∨ ltInt (G (F + c)) (G (F + c + 1)) = false := .inl (by omega)
          have e2 : ltInt (G (F + r)) (G (F + c)) = false := by simpa using ‹(!ltInt (G (F + r)) (G (F + c))) = true›
          refine bodyPost_ret (results_none rfl _ _ _) rfl ?_
          exact ⟨rfl, by rw [← (F1.out e1 h1).1 e2]; exact (hK.out.1.drewN _).drewN _⟩
        · have e1 : hi ≤ c + 1 ∨ ltInt (G (F + c)) (G (F + c + 1)) = false := .inl (by omega)
          have e2 : ltInt (G (F + r)) (G (F + c)) = true := by simpa using ‹(!ltInt (G (F + r)) (G (F + c))) = false›
          go_region
          all_goals go_wp2
          go_roundw
          case rel => exact ⟨c, _, rfl, by omega, Lib.hid ⟨hK.out.1.swapG HG _ _ _ l1 l2, (F1.out e1 h1).2 e2⟩⟩
          case measure => simp [intOf]; have := HC.out; omega
    · go_wp2
      go_end0
      exact ⟨rfl, by rw [← hK.out.2, stop (by omega)]; exact hK.out.1⟩
end Go.Proofs.YtelfacchhclgnaaGreat.Kb
end
section
namespace Go.Proofs.YtelfacchhclgnaaGreat.Kb
set_option maxRecDepth 20000
open Go.RowKit Go.Sort
set_option maxHeartbeats 8000000 in
set_option maxRecDepth 100000 in
theorem so_heap (w0 w : World) (blk off n cap a b : Nat) (d : Array Int) (h : Rr w0 blk off n d w) (hab : a < b) (hb : b ≤ n) :
    Calls Tryz.prog 164 #[.slice (some ⟨blk, off, none⟩) n cap, .int .i64 a, .int .i64 b] w fun e w' =>
      e = .returned (.tuple #[]) ∧ Sr w0 blk off n a b d (SortedIn ltInt a b) w' := by
  have few := h.few
  suffices H : Calls Tryz.prog 164 #[.slice (some ⟨blk, off, none⟩) n cap, .int .i64 a, .int .i64 b] w fun e w' =>
      e = .returned (.tuple #[]) ∧ Rr w0 blk off n (heapSort ltInt d a b) w' from
    H.mono fun e w' hw => ⟨hw.1, _, hw.2, (heapSort_holds swo_ltInt d a b (by omega) (by rw [h.size]; exact hb)).1, (heapSort_holds swo_ltInt d a b (by omega) (by rw [h.size]; exact hb)).2⟩
  have H := Lib.hid h
  clear h
  obtain ⟨L, hL⟩ : ∃ L, L = b - a := ⟨_, rfl⟩
  obtain ⟨m, hm⟩ : ∃ m, m = (L - 1) / 2 := ⟨_, rfl⟩
  obtain ⟨L1, hL1⟩ : ∃ L1, L1 = L - 1 := ⟨_, rfl⟩
  obtain ⟨B, hB⟩ : ∃ B, B = heapBuild ltInt L a (m + 1) d := ⟨_, rfl⟩
  have hE : heapSort ltInt d a b = heapPop ltInt a (L1 + 1) B := by
    unfold heapSort; rw [hB, hm, hL1, hL, show b - a - 1 + 1 = b - a by omega]
  have HE := Lib.hid hE
  have eL : (b : Int) - (a : Int) = (L : Int) := by omega
  have e1 : (L : Int) - 1 = (L1 : Int) := by omega
  have em : (L1 : Int) / 2 = (m : Int) := by omega
  have hLb : a + L = b := by omega
  have hl1 : L1 + 1 = L := by omega
  have hmL : m < L := by omega
  have HLb := Lib.hid hLb
  have HL1 := Lib.hid hl1
  have HB := Lib.hid hB
  clear hE hL hm hL1 hLb hl1 hB
  have hL0 : 0 ≤ (L1 : Int) := by omega
  go_enter Tryz.func164, Tryz.ntmps164
  go_wp2
  go_loopw [9] (fun vi wr => ∃ (dk : Array Int), (∃ t : Nat, vi = .int .i64 t ∧ t < L ∧ Hid (Rr w0 blk off n dk wr ∧ heapBuild ltInt L a (t + 1) dk = B)) ∨ (vi = .int .i64 (-1) ∧ Hid (Rr w0 blk off n dk wr ∧ dk = B))) (fun vi _ => (intOf vi + 1).toNat)
  case atStart => exact ⟨d, .inl ⟨m, by simp, hmL, Lib.hid ⟨H.out, HB.out.symm⟩⟩⟩
  case round =>
    obtain ⟨dk, hrel⟩ := hrel
    rcases hrel with ⟨t, rfl, ht, hK⟩ | ⟨rfl, hK⟩
    · have hL2 : a + L ≤ n := by have := HLb.out; omega
      go_wp2_with (go_at_call 180; refine (so_sift w0 _ blk off n cap t L a dk hK.out.1 hL2 (by omega)).mono ?_; rintro e w' ⟨rfl, hw'⟩; replace hw' := Lib.hid hw')
      go_roundw
      case rel =>
        refine ⟨siftDown ltInt L a t dk, ?_⟩
        rcases Nat.eq_zero_or_pos t with h0 | h0
        · exact .inr ⟨by subst h0; rfl, Lib.hid ⟨hw'.out, by subst h0; exact hK.out.2⟩⟩
        · exact .inl ⟨t - 1, by congr 1; omega, by omega, Lib.hid ⟨hw'.out, by rw [show t - 1 + 1 = t by omega]; exact hK.out.2⟩⟩
      case measure => first | (simp [intOf]; done) | (simp [intOf]; omega)
    · go_wp2
      go_loopw [10] (fun vi wr => ∃ (dk : Array Int), (∃ t : Nat, vi = .int .i64 t ∧ t < L ∧ Hid (Rr w0 blk off n dk wr ∧ heapPop ltInt a (t + 1) dk = heapSort ltInt d a b)) ∨ (vi = .int .i64 (-1) ∧ Hid (Rr w0 blk off n dk wr ∧ dk = heapSort ltInt d a b))) (fun vi _ => (intOf vi + 1).toNat)
      case atStart => exact ⟨dk, .inl ⟨L1, by simp, by have := HL1.out; omega, Lib.hid ⟨hK.out.1, by rw [hK.out.2]; exact HE.out.symm⟩⟩⟩
      case round =>
        obtain ⟨dk2, hrel⟩ := hrel
        rcases hrel with ⟨t, rfl, ht, hJ⟩ | ⟨rfl, hJ⟩
        · have hL2 : a + L ≤ n := by have := HLb.out; omega
          obtain ⟨G, hG⟩ : ∃ G : Nat → Int, ∀ t, G t = dk2[t]! := ⟨fun t => dk2[t]!, fun _ => rfl⟩
          have hcw : ∀ t, t < n → wr.cell? ⟨blk, off + t, none⟩ = some (.int .u64 (G t)) := fun t ht => by rw [hG]; exact hJ.out.1.cell ht
          have hfw : ∀ t, t < n → wr.frozen? ⟨blk, off + t, none⟩ = false := fun t ht => hJ.out.1.free ht
          have HG := Lib.hid hG
          clear hG
          have tT : ((a : Int) + (t : Int)).toNat = a + t := by omega
          have l0 : a < n := by omega
          have l1 : a + t < n := by omega
          have y0 : (0 : Int) ≤ (a : Int) + (t : Int) := by omega
          have v1 := w64 ((a : Int) + (t : Int)) (by omega) (by omega)
          rcases Nat.eq_zero_or_pos t with h0 | h0
          · subst h0
            go_wp2
            go_region
            all_goals go_wp2_with (go_at_call 180; refine (so_sift w0 _ blk off n cap 0 0 a (swp dk2 a (a + 0)) (hJ.out.1.swapG HG 1 a (a + 0) l0 l1) (by omega) (by omega)).mono ?_; rintro e w' ⟨rfl, hw'⟩; replace hw' := Lib.hid hw')
            go_roundw
            case rel => exact ⟨_, .inr ⟨rfl, Lib.hid ⟨hw'.out, hJ.out.2⟩⟩⟩
            case measure => simp [intOf]
          · have hne : ¬ t = 0 := by omega
            go_wp2
            go_region
            all_goals go_wp2_with (go_at_call 180; refine (so_sift w0 _ blk off n cap 0 t a (swp dk2 a (a + t)) (hJ.out.1.swapG HG 1 a (a + t) l0 l1) (by omega) (by omega)).mono ?_; rintro e w' ⟨rfl, hw'⟩; replace hw' := Lib.hid hw')
            go_roundw
            case rel => exact ⟨_, .inl ⟨t - 1, by first | (congr 1; done) | (congr 1; omega), by omega, Lib.hid ⟨hw'.out, by rw [show t - 1 + 1 = t by omega]; exact hJ.out.2⟩⟩⟩
            case measure => first | (simp [intOf]; done) | (simp [intOf]; omega)
        · go_wp2
          go_end0
          exact ⟨rfl, by rw [← hJ.out.2]; exact hJ.out.1⟩
end Go.Proofs.YtelfacchhclgnaaGreat.Kb
end
