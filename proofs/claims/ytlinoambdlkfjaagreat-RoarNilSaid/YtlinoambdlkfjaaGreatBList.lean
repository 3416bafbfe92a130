
/- Lists of 16-bit numbers in memory; the document's New, List, Steps, At, Same; the text walked. -/
import Derived.Test.YtlinoambdlkfjaaGreatBRef
import Derived.Maps.AppendAt
import Derived.Deep.AppendLies
import Derived.RegionTactic
namespace Go.Proofs.YtlinoambdlkfjaaGreat
set_option maxRecDepth 40000
open Go.RowKit
abbrev hv (xs : List Int) : List Value := xs.map (Value.int .u16)
/-- The slice at A reads as the list xs of 16-bit numbers, in cells below block B. -/
def Rh (w : World) (B : Nat) (A : Option Addr) (xs : List Int) : Prop :=
  xs ≠ [] → ∃ b off, A = some ⟨b, off, none⟩ ∧ b < B ∧ ∀ (k : Nat) (h : k < xs.length), w.cell? ⟨b, off + k, none⟩ = some (.int .u16 xs[k])
theorem Rh.nil (w : World) (B : Nat) (A : Option Addr) : Rh w B A [] := fun h => absurd rfl h
theorem Rh.below {w w' : World} {B B' : Nat} {A : Option Addr} {xs : List Int} (h : Rh w B A xs) (hb : Below B' w w') (hB : B ≤ B') : Rh w' B A xs := fun hne => by
  obtain ⟨b, off, rfl, hlt, hc⟩ := h hne
  exact ⟨b, off, rfl, hlt, fun k hk => (hb.cell (p := ⟨b, off + k, none⟩) (by show b < B'; omega)).trans (hc k hk)⟩
theorem Rh.more {w : World} {B B' : Nat} {A : Option Addr} {xs : List Int} (h : Rh w B A xs) (hB : B ≤ B') : Rh w B' A xs := fun hne => by
  obtain ⟨b, off, rfl, hlt, hc⟩ := h hne
  exact ⟨b, off, rfl, by omega, hc⟩
theorem Rh.drew {w : World} {B : Nat} {A : Option Addr} {xs : List Int} (h : Rh w B A xs) (n : Nat) : Rh (w.drewN n) B A xs := h
theorem Rh.at {w : World} {B : Nat} {A : Option Addr} {xs : List Int} (h : Rh w B A xs) {k : Nat} (hk : k < xs.length) : ∃ b off, A = some ⟨b, off, none⟩ ∧ b < B ∧ w.cell? ⟨b, off + k, none⟩ = some (.int .u16 xs[k]) := by
  obtain ⟨b, off, rfl, hlt, hc⟩ := h (by intro e; subst e; simp at hk)
  exact ⟨b, off, rfl, hlt, hc k hk⟩
theorem Rh.grown {w w' : World} {B g : Nat} {A : Option Addr} {xs : List Int} (h : Rh w B A xs) (hg : w.grownBy w' (some g)) (hB : B ≤ w.heap.size) (hne : ∀ ad, A = some ad → ad.block ≠ g) : Rh w' B A xs := fun he => by
  obtain ⟨b, off, rfl, hlt, hc⟩ := h he
  refine ⟨b, off, rfl, hlt, fun k hk => ?_⟩
  have hb := hg.block b (by omega) (by intro e; cases e; exact hne _ rfl rfl)
  have := hc k hk
  simp only [World.cell?, hb] at this ⊢
  exact this
theorem add_offB (g k : Nat) : (⟨g, 0, none⟩ : Addr).add k = ⟨g, k, none⟩ := by
  by_cases h : k = 0
  · subst h; rfl
  · simp [Addr.add, h]
theorem cell_oneB (w : World) (v : Value) (t : TypeId) (j : Nat) (u : Value) (h : [v][j]? = some u) : (w.alloc (.cells #[v] t)).cell? ((⟨w.heap.size, 0, none⟩ : Addr).add j) = some u := by
  match j, h with
  | 0, h =>
    rw [add_offB]
    simp at h
    subst h
    simp
theorem one_intB (k : IntKind) (n : Int) (u : Value) (h : u ∈ [Value.int k n]) : u.oneCell' = true := by
  simp at h; subst h; rfl
/-- No older block than n. -/
def Young (n : Nat) (A : Option Addr) : Prop := ∀ ad, A = some ad → n ≤ ad.block
theorem Rh.of_own {w : World} {base : Nat} {v : Value} {xs : List Int} (h : w.ownsRow base 50 1 v xs.length (hv xs)) : ∃ A c, v = .slice A xs.length c ∧ Rh w w.heap.size A xs ∧ Young base A := by
  rcases h.2 with ⟨rfl, hn⟩ | ⟨g, cap, cur, rfl, hb, hh, _⟩
  · have : xs = [] := by simpa using hn
    subst this
    exact ⟨none, 0, rfl, fun h => absurd rfl h, fun _ h => by cases h⟩
  · refine ⟨_, _, rfl, fun hne => ⟨g, 0, rfl, ?_, fun k hk => ?_⟩, fun _ e => by cases e; exact hb⟩
    · exact (h.lt g rfl).2
    · have := h.cells (g := g) rfl k (.int .u16 xs[k]) (by simp [hk])
      rw [add_offB] at this
      rw [Nat.zero_add]
      exact this
theorem own_cap {w : World} {base : Nat} {e : TypeId} {size n : Nat} {v : Value} {xs : List Value} (h : w.ownsRow base e size v n xs) : ∀ A c, v = .slice A n c → n ≤ c := by
  intro A c hv
  rcases h.2 with ⟨h1, h2⟩ | ⟨g, cap, cur, h1, _, _, hnc, _⟩
  · rw [h1] at hv; simp at hv; omega
  · rw [h1] at hv; simp at hv; omega
theorem u16_info : (Tryz.prog.info? 50).map (fun i => (i.zero, i.size, i.bytes)) = some (some (.int .u16 0), 1, 2) := by kernel_rfl
theorem own_snocH {w w0 w1 : World} {xs : List Int} {y : Int} {v v' : Value} {t : TypeId} (hb : Below w.heap.size w w0) (hown : w0.ownsRow w.heap.size 50 1 v xs.length (hv xs))
    (hown' : w1.ownsRow w.heap.size 50 1 v' (xs.length + 1) (hv xs ++ [.int .u16 y])) (hgrow : (w0.alloc (.cells #[.int .u16 y] t)).grownBy w1 v.ownBlock) :
    w1.ownsRow w.heap.size 50 1 v' (xs ++ [y]).length (hv (xs ++ [y])) ∧ Below w.heap.size w w1 :=
  ⟨by rw [hv, List.map_append, List.length_append]; exact hown', (hb.alloc hb.size _).grown hgrow (by have := hb.size; simp; omega) (fun g hg => (hown.lt g hg).1)⟩
end Go.Proofs.YtlinoambdlkfjaaGreat
