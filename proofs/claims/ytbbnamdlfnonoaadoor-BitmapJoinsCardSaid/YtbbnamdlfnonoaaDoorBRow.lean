
/- A bitmap's words in new memory, of a nil one too; the text walked. -/
import Derived.Test.YtbbnamdlfnonoaaDoorGPlays
namespace Go.Proofs.YtbbnamdlfnonoaaDoor
open Go.RowKit Go.Shelf
/-- A pointer to a bitmap of these words; of a nil one all are nought. -/
def PB (w : World) (po : Option Addr) (ws : List Nat) : Prop := (po = none ∧ ws = List.replicate 1024 0) ∨ ∃ p s h, po = some ⟨p, 0, none⟩ ∧ Bm w p s h ws
theorem PB.below {w w' : World} {po : Option Addr} {ws : List Nat} (a : PB w po ws) (hb : Below w.heap.size w w') : PB w' po ws := by
  rcases a with a | ⟨p, s, h, rfl, a⟩
  · exact .inl a
  · exact .inr ⟨p, s, h, rfl, a.all_below hb⟩
theorem PB.len {w : World} {po : Option Addr} {ws : List Nat} (a : PB w po ws) : ws.length = 1024 := by
  rcases a with ⟨_, rfl⟩ | ⟨p, s, h, rfl, a⟩
  · exact List.length_replicate ..
  · exact a.len
theorem PB.lt {w : World} {po : Option Addr} {ws : List Nat} (a : PB w po ws) : ∀ x ∈ ws, x < 18446744073709551616 := by
  rcases a with ⟨_, rfl⟩ | ⟨p, s, h, rfl, a⟩
  · intro x hx
    rw [List.eq_of_mem_replicate hx]; decide
  · exact a.st.2.2.1
/-- New memory that holds words. -/
def Row (w w' : World) (g : Nat) (ws : List Nat) : Prop := w.heap.size ≤ g ∧ w'.heap[g]? = some (.cells (wv ws).toArray 65 (0, 0)) ∧ Below w.heap.size w w'
set_option maxRecDepth 100000 in
set_option maxHeartbeats 1000000 in
theorem b_row (w : World) (po : Option Addr) (ws : List Nat) (a : PB w po ws) :
    Calls Tryd.prog 80 #[.pointer po] w fun e w' => ∃ g, e = .returned (.slice (some ⟨g, 0, none⟩) 1024 1024) ∧ Row w w' g ws := by
  obtain ⟨ti, hi, hb, hz, hsz⟩ : ∃ ti, Tryd.prog.info? 65 = some ti ∧ ti.bytes = 8 ∧ ti.zero = some (.int .u64 0) ∧ ti.size = 1 := ⟨_, rfl, rfl, rfl, rfl⟩
  have hinf : (Tryd.prog.info? 65).map (·.size) = some 1 := by rw [hi]; exact congrArg some hsz
  have hmk0 : ∀ (n : Nat), n ≤ 4096 → ∀ w : World, (Instr.makeSlice 66 (.int .i64 (n : Int)) (.int .i64 (n : Int))).run Tryd.prog w = .ok (.slice (some ⟨w.heap.size, 0, none⟩) n n) (w.alloc (.cells (madeCells (Value.int .u64 0).cells n) 65)) := by
    intro n hn w
    have := run_make (P := Tryd.prog) w 66 65 ti _ (by kernel_rfl) hi hz .i64 .i64 (n : Int) (n : Int) (by omega) (by omega) (by rw [hb]; omega) (by omega)
    simpa [hsz] using this
  obtain ⟨N, hN⟩ : ∃ N : Nat, N = 1024 := ⟨_, rfl⟩
  obtain ⟨zs, hzs⟩ : ∃ zs, zs = wv (List.replicate N 0) := ⟨_, rfl⟩
  have hzl : zs.length = N := by rw [hzs]; simp [wv]
  have hmk : ∀ w : World, (Instr.makeSlice 66 (.int .i64 1024) (.int .i64 1024)).run Tryd.prog w = .ok (.slice (some ⟨w.heap.size, 0, none⟩) 1024 1024) (w.alloc (.cells zs.toArray 65)) := fun w => by
    have h := hmk0 1024 (by decide) w
    have e : madeCells (Value.int .u64 0).cells 1024 = zs.toArray := by rw [hzs, hN]; exact made_zero 1024
    rw [e] at h
    exact h
  have HZ := Lib.hid hzs
  have HN := Lib.hid hN
  clear hmk0 hi hz hsz hb hzs hN
  rcases a with ⟨rfl, rfl⟩ | ⟨p, s, h, rfl, a⟩
  · go_enter Tryd.func80, Tryd.ntmps80
    go_wp2_with (first
      | (go_at_call 43; (with_reducible refine (kept_nil _).mono ?_); rintro e w' ⟨rfl, rfl⟩)
      | (go_at_call 45; (with_reducible refine (s_words_nil _).mono ?_); rintro e w' ⟨rfl, rfl⟩)
      | (with_reducible refine wpList_copy_nothing rfl (.tmp 5) (.tmp 8) 66 66 rfl 65 rfl hinf (some ⟨w.heap.size, 0, none⟩) none 1024 1024 0 0 rfl rfl ?c0 ?_))
    case c0 => rfl
    go_wp2
    go_ret
    exact ⟨_, rfl, Nat.le_refl _, by rw [← HN.out, ← HZ.out]; exact alloc_top _ _ rfl, (Below.refl _ w).alloc (Nat.le_refl _) _⟩
  · have hlen : (wv ws).length = N := by rw [HN.out]; simp [wv, a.len]
    have hw := fun W (hb : Below w.heap.size w W) => Lib.hid (s_words W s h ws (a.all_below hb).st)
    have hk := fun W (hb : Below w.heap.size w W) => Lib.hid (kept_any W p s h ws (a.all_below hb))
    rw [a.len] at hw
    have h1 := Lib.hid (wv_one ws)
    have hspl : Hid (splice zs 0 (wv ws) = wv ws) := splice_all _ _ (by rw [hzl, hlen])
    have hcell : ∀ (w' : World) (h' : Nat), w'.heap[h']? = some (.cells (wv ws).toArray 65 (0, 0)) → ∀ j v, (wv ws)[j]? = some v → w'.cell? ⟨h', j, none⟩ = some v := fun w' h' hh j v hv => by
      rw [cell_of_row w' h' j _ _ (0, 0) hh]; simpa using hv
    clear a
    obtain ⟨cs, hcs⟩ : ∃ cs, wv ws = cs := ⟨_, rfl⟩
    rw [hcs] at hlen hw h1 hspl hcell
    have HCS := Lib.hid hcs
    clear hcs
    go_enter Tryd.func80, Tryd.ntmps80
    go_wp2_with (first
      | (go_at_call 43; (with_reducible refine (hk _ ((Below.refl _ w).alloc (Nat.le_refl _) _)).out.mono ?_); rintro e w' ⟨rfl, rfl⟩)
      | (go_at_call 45; (with_reducible refine (hw _ ((Below.refl _ w).alloc (Nat.le_refl _) _)).out.mono ?_); rintro e w3 ⟨h', rfl, hle, hh, hbl⟩)
      | (with_reducible refine wpList_copy_splice rfl (.tmp 5) (.tmp 8) 66 66 rfl 65 rfl hinf (some ⟨w.heap.size, 0, none⟩) (some ⟨h', 0, none⟩) 1024 1024 1024 1024 rfl rfl w.heap.size 0 zs 65 ?c1 cs ?c2 ?c3 ?c4 h1.out w.heap.size w ?c5 (Nat.le_refl _) ?_))
    case c1 => exact (hbl.block _ (by simp)).trans (alloc_top _ _ rfl)
    case c2 => rw [hlen, HN.out]; rfl
    case c3 =>
      intro _ j v hv
      have h9 := hcell _ _ hh j v hv
      first
        | exact h9
        | (rw [add_off, Nat.zero_add]; exact h9)
        | (rw [add_off]; simpa using h9)
    case c4 => rw [hlen, hzl]; omega
    case c5 => exact ((Below.refl _ w).alloc (Nat.le_refl _) _).trans (hbl.mono (by simp))
    intro w2 hg2 hb2
    rw [hspl.out] at hg2
    go_wp2
    go_ret
    exact ⟨_, rfl, Nat.le_refl _, by rw [HCS.out]; exact hg2.out, hb2⟩
end Go.Proofs.YtbbnamdlfnonoaaDoor
